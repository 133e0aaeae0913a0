package lrgen

const (
	maxStates = 40
	noState   = -1 // where a step would lead that there is not
)

// state is a set of items with its steps and the number of its core.
type state struct {
	items itemSet
	to    [letterCount]int
	core  int
}

// table is all states of a grammar. If fault is not OK, only fault is of use.
type table struct {
	plan   plan
	states []state
	cores  int
	fault  Errno
}

// readTable reads a grammar and makes its states, or finds States' errors.
func readTable(text string) table {
	var t table
	g := readGrammar(text)
	if g.fault != OK {
		t.fault = g.fault
		return t
	}
	t.plan = g.makePlan()
	t.findStates()
	return t
}

// findStates finds all states. They are met in the order of their numbers, so
// that the steps of one are found when it comes to the front of those that are
// left; numberOf lets no more in than maxStates.
func (t *table) findStates() {
	items := t.plan.firstItems()
	t.numberOf(&items)
	for n := 0; n < len(t.states); n++ {
		t.findSteps(n)
		if t.fault != OK {
			return
		}
	}
}

func (t *table) findSteps(n int) {
	if !t.hasState(n) {
		return
	}
	from := t.states[n].items
	next := t.plan.nextLetters(&from)
	for i := 0; i < letterCount; i++ {
		to := noState
		if next.in[i] {
			items := t.plan.move(&from, letterAt(i))
			to = t.numberOf(&items)
		}
		t.states[n].to[i] = to
	}
}

// numberOf answers the number of the state with these items. One that was not
// met yet gets the next number, if there is room for it.
func (t *table) numberOf(items *itemSet) int {
	for n := 0; n < len(t.states); n++ {
		if t.states[n].items == *items {
			return n
		}
	}
	if len(t.states) >= maxStates {
		t.fault = ErrMany
		return noState
	}
	var fresh state
	fresh.items = *items
	fresh.core = t.coreOf(items)
	if fresh.core == t.cores {
		t.cores++
	}
	t.states = append(t.states, fresh)
	return len(t.states) - 1
}

// coreOf answers the number of the core of these items: that of a state with
// the same one, or the next that is free.
func (t *table) coreOf(items *itemSet) int {
	for n := 0; n < len(t.states); n++ {
		if t.states[n].items.sameCore(items) {
			return t.states[n].core
		}
	}
	return t.cores
}

func (t *table) hasState(n int) bool {
	return n >= 0 && n < len(t.states)
}

func (t *table) hasCore(c int) bool {
	return c >= 0 && c < t.cores
}

// step answers the number of the state to which a letter leads, or noState.
func (t *table) step(n int, letter byte) int {
	i := letterIndex(letter)
	if !t.hasState(n) || i < 0 {
		return noState
	}
	return t.states[n].to[i]
}
