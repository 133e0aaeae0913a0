package lrgen

const (
	ruleCount  = maxRules + 1 // rule 0 too
	placeCount = maxRight + 1 // the end of a right side too
	itemCount  = ruleCount * placeCount * signCount
)

// spot is a place in the right side of a rule. All spots of a rule that there
// is not, and those behind the end of a right side, have no letter and are no
// end, so that loops may go over all numbers and places.
type spot struct {
	letter byte    // what stands there, if it is not the end
	end    bool    // it is the end of the right side
	begins signSet // the small letters that can begin what is behind the letter
	null   bool    // what is behind the letter derives the empty word
}

// plan is what items stand on: the rules by their numbers.
type plan struct {
	left  [ruleCount]byte // none for rule 0: no letter is replaced by it
	spots [ruleCount][placeCount]spot
}

func (g *grammar) makePlan() plan {
	var p plan
	var zero rule
	zero.right = string([]byte{g.start})
	g.layRule(&p, 0, zero)
	for i := 0; i < len(g.rules); i++ {
		g.layRule(&p, i+1, g.rules[i])
	}
	return p
}

func (g *grammar) layRule(p *plan, number int, r rule) {
	if number >= ruleCount || len(r.right) >= placeCount {
		return
	}
	p.left[number] = r.left
	p.spots[number][len(r.right)].end = true
	for at := 0; at < len(r.right); at++ {
		p.spots[number][at] = g.spotOf(r.right[at], r.right[at+1:])
	}
}

func (g *grammar) spotOf(letter byte, rest string) spot {
	var s spot
	s.letter = letter
	s.begins = g.firstOf(rest)
	s.null = g.isNull(rest)
	return s
}

// leftOf answers the big letter that is replaced by a rule; 0, if there is none.
func (p *plan) leftOf(number int) byte {
	if number < 0 || number >= ruleCount {
		return 0
	}
	return p.left[number]
}

// rightLength answers how many letters a rule's right side has.
func (p *plan) rightLength(number int) int {
	if number < 0 || number >= ruleCount {
		return 0
	}
	for at := 0; at < placeCount; at++ {
		if p.spots[number][at].end {
			return at
		}
	}
	return 0
}

// itemSet is a set of items: the signs of those of each rule and place.
type itemSet struct {
	signs [ruleCount][placeCount]signSet
}

// firstItems is the set of state 0.
func (p *plan) firstItems() itemSet {
	var s itemSet
	s.signs[0][0].add(endSign)
	p.fill(&s)
	return s
}

// fill adds what a set lacks to be full. Each round but the last adds an item,
// so that there are never more rounds than items.
func (p *plan) fill(s *itemSet) {
	for round := 0; round <= itemCount; round++ {
		before := *s
		p.spread(s)
		if *s == before {
			return
		}
	}
}

// spread adds the items that those of a set ask for.
func (p *plan) spread(s *itemSet) {
	for n := 0; n < ruleCount; n++ {
		for at := 0; at < placeCount; at++ {
			here := p.spots[n][at]
			if isBig(here.letter) && !s.signs[n][at].isEmpty() {
				signs := here.behind(s.signs[n][at])
				p.open(s, here.letter, signs)
			}
		}
	}
}

// behind finds the signs that can begin what comes behind a spot's letter in
// items with these signs.
func (s *spot) behind(signs signSet) signSet {
	all := s.begins
	if s.null {
		all.addAll(signs)
	}
	return all
}

// open adds the items of a big letter's rules with these signs.
func (p *plan) open(s *itemSet, big byte, signs signSet) {
	for n := 0; n < ruleCount; n++ {
		if p.left[n] == big {
			s.signs[n][0].addAll(signs)
		}
	}
}

// nextLetters finds the letters by which there is a step.
func (p *plan) nextLetters(from *itemSet) letterSet {
	var next letterSet
	for n := 0; n < ruleCount; n++ {
		for at := 0; at < placeCount; at++ {
			if !from.signs[n][at].isEmpty() {
				next.add(p.spots[n][at].letter)
			}
		}
	}
	return next
}

// move answers the full set to which the step by a letter goes.
func (p *plan) move(from *itemSet, letter byte) itemSet {
	var to itemSet
	for n := 0; n < ruleCount; n++ {
		for at := 0; at+1 < placeCount; at++ {
			if p.spots[n][at].letter == letter {
				to.signs[n][at+1] = from.signs[n][at]
			}
		}
	}
	p.fill(&to)
	return to
}

// sameCore tells whether two sets have the same items but for the signs.
func (s *itemSet) sameCore(other *itemSet) bool {
	for n := 0; n < ruleCount; n++ {
		for at := 0; at < placeCount; at++ {
			here := s.signs[n][at].isEmpty()
			there := other.signs[n][at].isEmpty()
			if here != there {
				return false
			}
		}
	}
	return true
}
