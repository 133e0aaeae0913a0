package lrgen

const (
	maxText  = 32 // bytes of a grammar
	maxRules = 8
	maxRight = 4  // letters of a right side
	maxWord  = 12 // bytes of a word
)

// rule is a rule as it stands in the text, from place on.
type rule struct {
	left  byte
	right string
	place int
}

// rightPlace is where the right side begins in the text.
func (r *rule) rightPlace() int { return r.place + 2 }

// grammar is what was read of a text. If fault is not OK, only fault and place
// are of use.
type grammar struct {
	rules []rule
	start byte
	ruled bigSet    // the big letters that have a rule
	null  bigSet    // those that derive the empty word
	first signTable // the small letters that words derived from them begin with
	fault Errno
	place int
}

func (g *grammar) refuse(fault Errno, place int) {
	g.fault = fault
	g.place = place
}

// readGrammar reads a text and judges it as Check does.
func readGrammar(text string) grammar {
	var g grammar
	if len(text) > maxText {
		g.refuse(ErrLong, 0)
		return g
	}
	g.readRules(text)
	if g.fault == OK {
		g.checkNames()
	}
	if g.fault == OK {
		g.checkDead()
	}
	if g.fault == OK {
		g.null = g.makersOf(false)
		g.fillFirst()
	}
	return g
}

// readWithWord reads a grammar and judges a word of it: the lengths of both
// come first, then the grammar, then the word's bytes.
func readWithWord(text string, w string) grammar {
	if len(w) > maxWord {
		var g grammar
		g.refuse(ErrLong, 0)
		return g
	}
	g := readGrammar(text)
	if g.fault == OK && !g.isWord(w) {
		g.refuse(ErrWord, 0)
	}
	return g
}

func (g *grammar) isWord(w string) bool {
	for i := 0; i < len(w); i++ {
		if !isSmall(w[i]) && !g.ruled.has(w[i]) {
			return false
		}
	}
	return true
}

func (g *grammar) readRules(text string) {
	at := 0
	for n := 1; n <= maxRules; n++ {
		r, end, whole := readRule(text, at)
		if !whole {
			g.refuse(ErrRule, end)
			return
		}
		g.addRule(r)
		if end >= len(text) {
			return
		}
		if n == maxRules || text[end] != ';' {
			g.refuse(ErrRule, end)
			return
		}
		at = end + 1
	}
}

// readRule reads the rule that begins at a place. It answers the rule, the
// place behind it and true; or the place where no rule can go on, and false.
func readRule(text string, at int) (rule, int, bool) {
	var r rule
	if at >= len(text) || !isBig(text[at]) {
		return r, at, false
	}
	sign := at + 1
	if sign >= len(text) || text[sign] != '=' {
		return r, sign, false
	}
	from := sign + 1
	end := from
	for end < len(text) && end-from < maxRight && isLetter(text[end]) {
		end++
	}
	r.left = text[at]
	r.right = text[from:end]
	r.place = at
	return r, end, true
}

func (g *grammar) addRule(r rule) {
	if len(g.rules) == 0 {
		g.start = r.left
	}
	g.rules = append(g.rules, r)
	g.ruled.add(r.left)
}

func (g *grammar) checkNames() {
	for i := 0; i < len(g.rules); i++ {
		r := g.rules[i]
		for p := 0; p < len(r.right); p++ {
			if isBig(r.right[p]) && !g.ruled.has(r.right[p]) {
				g.refuse(ErrName, r.rightPlace()+p)
				return
			}
		}
	}
}

func (g *grammar) checkDead() {
	ending := g.makersOf(true)
	reached := g.reachedLetters()
	for i := 0; i < len(g.rules); i++ {
		r := g.rules[i]
		if !ending.has(r.left) || !reached.has(r.left) {
			g.refuse(ErrDead, r.place)
			return
		}
	}
}

// makersOf finds the big letters that derive a word without a big letter: any
// such word, if small letters are allowed, else the empty word. A round that
// adds no letter ends the search, and there are no more letters to add than
// rules, so that as many rounds as rules are enough.
func (g *grammar) makersOf(smallAllowed bool) bigSet {
	var makers bigSet
	for round := 0; round < len(g.rules); round++ {
		for i := 0; i < len(g.rules); i++ {
			r := g.rules[i]
			if vanishes(r.right, &makers, smallAllowed) {
				makers.add(r.left)
			}
		}
	}
	return makers
}

// vanishes tells whether all letters of a word are in a set, or small ones if
// those are allowed.
func vanishes(w string, set *bigSet, smallAllowed bool) bool {
	for i := 0; i < len(w); i++ {
		passes := smallAllowed && isSmall(w[i])
		if !passes && !set.has(w[i]) {
			return false
		}
	}
	return true
}

// reachedLetters finds the big letters of the words that the start derives. As
// many rounds as rules are enough, as in makersOf.
func (g *grammar) reachedLetters() bigSet {
	var reached bigSet
	reached.add(g.start)
	for round := 0; round < len(g.rules); round++ {
		for i := 0; i < len(g.rules); i++ {
			r := g.rules[i]
			if reached.has(r.left) {
				addBigLetters(&reached, r.right)
			}
		}
	}
	return reached
}

func addBigLetters(set *bigSet, w string) {
	for i := 0; i < len(w); i++ {
		set.add(w[i])
	}
}
