package lrgen

const noRule = -1

// actSet is what can be done where a sign comes: a step, and the replacing of
// right sides by the rules with these numbers.
type actSet struct {
	step  bool
	rules [ruleCount]bool
}

func (a *actSet) addAll(more actSet) {
	a.step = a.step || more.step
	for n := 0; n < ruleCount; n++ {
		a.rules[n] = a.rules[n] || more.rules[n]
	}
}

// list writes a set down: the step first, then the rules, a byte each.
func (a *actSet) list() string {
	var acts []byte
	if a.step {
		acts = append(acts, 's')
	}
	for n := 0; n < ruleCount; n++ {
		if a.rules[n] {
			acts = append(acts, '0'+byte(n))
		}
	}
	return string(acts)
}

func (a *actSet) isEmpty() bool {
	var none actSet
	return *a == none
}

// firstRule answers the least number of a rule, or noRule.
func (a *actSet) firstRule() int {
	for n := 0; n < ruleCount; n++ {
		if a.rules[n] {
			return n
		}
	}
	return noRule
}

// isClash tells whether there is more than one thing to do.
func (a *actSet) isClash() bool {
	return len(a.list()) > 1
}

// acts finds what can be done in a state where a sign comes.
func (t *table) acts(n int, sign byte) actSet {
	var found actSet
	if !t.hasState(n) {
		return found
	}
	found.step = t.step(n, sign) != noState
	for r := 0; r < ruleCount; r++ {
		for at := 0; at < placeCount; at++ {
			if t.plan.spots[r][at].end && t.states[n].items.signs[r][at].has(sign) {
				found.rules[r] = true
			}
		}
	}
	return found
}

// mix finds what can be done in the states of a core, all together.
func (t *table) mix(core int, sign byte) actSet {
	var found actSet
	for n := 0; n < len(t.states); n++ {
		if t.states[n].core == core {
			more := t.acts(n, sign)
			found.addAll(more)
		}
	}
	return found
}

// class answers as Class does.
func (t *table) class() int {
	if t.statesClash() {
		return 0
	}
	if t.coresClash() {
		return 1
	}
	return 2
}

func (t *table) statesClash() bool {
	for n := 0; n < len(t.states); n++ {
		for i := 0; i < signCount; i++ {
			found := t.acts(n, signAt(i))
			if found.isClash() {
				return true
			}
		}
	}
	return false
}

func (t *table) coresClash() bool {
	for c := 0; c < t.cores; c++ {
		for i := 0; i < signCount; i++ {
			found := t.mix(c, signAt(i))
			if found.isClash() {
				return true
			}
		}
	}
	return false
}
