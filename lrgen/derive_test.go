package lrgen_test

import (
	"math/rand"
	"sort"
	"strings"
	"testing"

	"lrgen/lrgen"
)

// longestWord bounds the search. Grammars of two big letters with right sides
// of at most two letters show all that they can within it.
const longestWord = 7

type wordSet map[string]bool

// derived answers all words that a word derives over words that are not too
// long, by the plain replacing of letters.
func derived(g string, w string) wordSet {
	found := wordSet{w: true}
	open := []string{w}
	for len(open) > 0 {
		word := open[len(open)-1]
		open = open[:len(open)-1]
		for p := range len(word) {
			for _, r := range strings.Split(g, ";") {
				next := word[:p] + r[2:] + word[p+1:]
				if r[0] == word[p] && len(next) <= longestWord && !found[next] {
					found[next] = true
					open = append(open, next)
				}
			}
		}
	}
	return found
}

func (s wordSet) hasText() bool {
	for w := range s {
		if strings.ToLower(w) == w {
			return true
		}
	}
	return false
}

func (s wordSet) hasLetter(c byte) bool {
	for w := range s {
		if strings.IndexByte(w, c) >= 0 {
			return true
		}
	}
	return false
}

func (s wordSet) first() string {
	found := wordSet{}
	for w := range s {
		if w != "" && w[0] >= 'a' {
			found[w[:1]] = true
		}
	}
	return found.sorted()
}

func (s wordSet) follow(big byte) string {
	found := wordSet{}
	for w := range s {
		for p := range len(w) {
			if w[p] == big && p+1 == len(w) {
				found["$"] = true
			}
			if w[p] == big && p+1 < len(w) && w[p+1] >= 'a' {
				found[w[p+1:p+2]] = true
			}
		}
	}
	return found.sorted()
}

func (s wordSet) sorted() string {
	var all []string
	for w := range s {
		all = append(all, w)
	}
	sort.Strings(all)
	return strings.Join(all, "")
}

// deadPlace answers the place of the first rule that is of no use, or -1.
func deadPlace(g string) int {
	reached := derived(g, g[:1])
	place := 0
	for _, r := range strings.Split(g, ";") {
		if !derived(g, r[:1]).hasText() || !reached.hasLetter(r[0]) {
			return place
		}
		place += len(r) + 1
	}
	return -1
}

// namePlace answers the place of the first big letter without a rule, or -1.
func namePlace(g string) int {
	place := 0
	for _, r := range strings.Split(g, ";") {
		for p := 2; p < len(r); p++ {
			if r[p] < 'a' && !strings.Contains(";"+g, ";"+r[p:p+1]+"=") {
				return place + p
			}
		}
		place += len(r) + 1
	}
	return -1
}

func someGrammar(source *rand.Rand) string {
	var rules []string
	for range 1 + source.Intn(4) {
		r := "SA"[source.Intn(2):][:1] + "="
		for range source.Intn(3) {
			r += "SAab"[source.Intn(4):][:1]
		}
		rules = append(rules, r)
	}
	return strings.Join(rules, ";")
}

func checkByWords(t *testing.T, g string) {
	fault, place := lrgen.Check(g)
	wantFault, wantAt := lrgen.OK, 0
	if at := namePlace(g); at >= 0 {
		wantFault, wantAt = lrgen.ErrName, at
	} else if at := deadPlace(g); at >= 0 {
		wantFault, wantAt = lrgen.ErrDead, at
	}
	if fault != wantFault || place != wantAt {
		t.Errorf("Check(%q) = %d, %d, want %d, %d", g, fault, place, wantFault, wantAt)
	}
	if wantFault != lrgen.OK {
		return
	}
	for _, r := range strings.Split(g, ";") {
		big := r[:1]
		words := derived(g, big)
		wantNull(t, g, big, words[""], lrgen.OK)
		wantFirst(t, g, big, words.first(), lrgen.OK)
		wantFollow(t, g, big, derived(g, g[:1]).follow(r[0]), lrgen.OK)
		words = derived(g, r[2:]+big)
		wantNull(t, g, r[2:]+big, words[""], lrgen.OK)
		wantFirst(t, g, r[2:]+big, words.first(), lrgen.OK)
	}
}

// The answers are held against the words themselves, derived one by one.
func TestAgainstDerivedWordsP3P4P5(t *testing.T) {
	source := rand.New(rand.NewSource(1))
	for range 600 {
		checkByWords(t, someGrammar(source))
	}
}
