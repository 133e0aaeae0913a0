package lrgen

// isNull tells whether a word derives the empty word.
func (g *grammar) isNull(w string) bool {
	return vanishes(w, &g.null, false)
}

// firstOf finds the small letters that the words derived from a word begin
// with, as far as g.first knows them.
func (g *grammar) firstOf(w string) signSet {
	var begins signSet
	for i := 0; i < len(w); i++ {
		c := w[i]
		if isSmall(c) {
			begins.add(c)
			return begins
		}
		more := g.first.get(c)
		begins.addAll(more)
		if !g.null.has(c) {
			return begins
		}
	}
	return begins
}

// fillFirst fills g.first from the rules; g.null must be filled. A small
// letter comes to a big one over a chain of big letters that all differ, one
// step of it a round at least, so that as many rounds as rules are enough.
func (g *grammar) fillFirst() {
	for round := 0; round < len(g.rules); round++ {
		for i := 0; i < len(g.rules); i++ {
			r := g.rules[i]
			begins := g.firstOf(r.right)
			g.first.addAll(r.left, begins)
		}
	}
}

// followTable finds the signs that can follow each big letter. The rounds are
// enough for the same reason as in fillFirst.
func (g *grammar) followTable() signTable {
	var follow signTable
	var end signSet
	end.add(endSign)
	follow.addAll(g.start, end)
	for round := 0; round < len(g.rules); round++ {
		for i := 0; i < len(g.rules); i++ {
			g.spreadFollow(&follow, g.rules[i])
		}
	}
	return follow
}

// spreadFollow adds to the letters of a rule's right side what can follow them
// there: what the rest begins with, and what follows the rule's big letter, if
// the rest can vanish.
func (g *grammar) spreadFollow(follow *signTable, r rule) {
	for p := 0; p < len(r.right); p++ {
		rest := r.right[p+1:]
		behind := g.firstOf(rest)
		if g.isNull(rest) {
			more := follow.get(r.left)
			behind.addAll(more)
		}
		follow.addAll(r.right[p], behind)
	}
}
