package lrgen

import "strconv"

// maxReplaced is more than all replacements that a text asks for, so that it
// stops no reading but only bounds the loop. Where nothing clashes there is one
// way to make a text, so that no big letter derives itself, nor itself behind
// letters that all vanish. Hence over each of the 78 stretches of 12 small
// letters each of 8 big ones stands at most once, and at each of 13 places at
// most 8 more are begun and not ended. Beside its letters each of them has at
// most 3 that vanish, and one that vanishes is made of less than 400 (the rules
// have 32 bytes): (78+13) * 8 * (1 + 3*400) is less than this.
const maxReplaced = 1 << 20

// stage is a state that was gone to, and what is written of the letter that led
// there.
type stage struct {
	state   int
	written string
}

// reading is how far a text is read. The first stage is state 0; the letters of
// the others, one behind the other, derive what is read.
type reading struct {
	table  *table
	stages []stage
}

// readForText makes the table by which a text is to be read, or finds the
// errors of Stop: the lengths of both come first, then the grammar, then the
// text's bytes.
func readForText(g string, text string) table {
	if len(text) > maxWord {
		var t table
		t.fault = ErrLong
		return t
	}
	t := readTable(g)
	if t.fault != OK {
		return t
	}
	if t.statesClash() {
		t.fault = ErrClash
	} else if !isAllSmall(text) {
		t.fault = ErrWord
	}
	return t
}

func isAllSmall(text string) bool {
	for i := 0; i < len(text); i++ {
		if !isSmall(text[i]) {
			return false
		}
	}
	return true
}

// start makes a fresh reading ready. The table must have no fault and no clash.
func (r *reading) start(t *table) {
	r.table = t
	r.push(0, "")
}

func (r *reading) push(state int, written string) {
	var s stage
	s.state = state
	s.written = written
	r.stages = append(r.stages, s)
}

// last answers the stage that was gone to last.
func (r *reading) last() stage {
	var none stage
	none.state = noState
	if len(r.stages) == 0 {
		return none
	}
	return r.stages[len(r.stages)-1]
}

// takeAll reads a text as far as it is good, and answers how far that is.
func (r *reading) takeAll(text string) int {
	for at := 0; at < len(text); at++ {
		taken := r.take(text[at])
		if !taken {
			return at
		}
	}
	return len(text)
}

// take reads a small letter, if it can come next.
func (r *reading) take(small byte) bool {
	canCome := r.settle(small)
	if !canCome {
		return false
	}
	from := r.last()
	to := r.table.step(from.state, small)
	r.push(to, string([]byte{small}))
	return true
}

// settle replaces right sides by their big letters until a sign that comes next
// can be stepped by, or ends the text. If the sign cannot come, it answers false
// and has replaced nothing: an item's signs are just those that can come behind
// its rule there, and no letter is dead, so that where there is anything to do
// for a sign, a text goes on with it.
func (r *reading) settle(sign byte) bool {
	for n := 0; n < maxReplaced; n++ {
		from := r.last()
		found := r.table.acts(from.state, sign)
		if found.step || found.rules[0] {
			return true
		}
		if found.isEmpty() {
			return false
		}
		rule := found.firstRule()
		r.replace(rule)
	}
	return false
}

// replace puts a rule's big letter in the place of its right side, which must
// stand at the end of what is read.
func (r *reading) replace(rule int) {
	from := len(r.stages) - r.table.plan.rightLength(rule)
	if from < 1 || from > len(r.stages) {
		return
	}
	inside := ""
	for i := from; i < len(r.stages); i++ {
		inside += r.stages[i].written
	}
	r.stages = r.stages[:from]
	before := r.last()
	big := r.table.plan.leftOf(rule)
	to := r.table.step(before.state, big)
	r.push(to, strconv.Itoa(rule)+"("+inside+")")
}

// signsAhead finds the signs that can come next. It must be asked ahead of
// settle for a sign that can come: what settle replaces is right for that sign
// alone.
func (r *reading) signsAhead() signSet {
	var signs signSet
	from := r.last()
	for i := 0; i < signCount; i++ {
		sign := signAt(i)
		found := r.table.acts(from.state, sign)
		if !found.isEmpty() {
			signs.add(sign)
		}
	}
	return signs
}
