package lrgen_test

import (
	"math/rand"
	"strings"
	"testing"

	"lrgen/lrgen"
)

// chart is what the rules say of one text, found without states: whole has the
// big letters that derive a stretch of it, goes those that derive a word which
// begins with all that stands from a place on.
type chart struct {
	rules []string
	text  string
	whole map[stretch]bool
	goes  map[stretch]bool
}

type stretch struct {
	big      byte
	from, to int
}

// newChart needs a grammar in which no rule is dead.
func newChart(g, text string) *chart {
	c := &chart{strings.Split(g, ";"), text, map[stretch]bool{}, map[stretch]bool{}}
	for before := -1; before < len(c.whole)+len(c.goes); {
		before = len(c.whole) + len(c.goes)
		for _, r := range c.rules {
			for from := range len(text) + 1 {
				c.add(r, from)
			}
		}
	}
	return c
}

func (c *chart) add(r string, from int) {
	for to := from; to <= len(c.text); to++ {
		if c.derives(r[2:], from, to) {
			c.whole[stretch{r[0], from, to}] = true
		}
	}
	if c.goesOn(r[2:], from) {
		c.goes[stretch{r[0], from, len(c.text)}] = true
	}
}

func (c *chart) derives(w string, from, to int) bool {
	if w == "" {
		return from == to
	}
	if w[0] >= 'a' {
		return from < to && c.text[from] == w[0] && c.derives(w[1:], from+1, to)
	}
	for mid := from; mid <= to; mid++ {
		if c.whole[stretch{w[0], from, mid}] && c.derives(w[1:], mid, to) {
			return true
		}
	}
	return false
}

func (c *chart) goesOn(w string, from int) bool {
	if from == len(c.text) {
		return true
	}
	if w == "" {
		return false
	}
	if w[0] >= 'a' {
		return c.text[from] == w[0] && c.goesOn(w[1:], from+1)
	}
	for mid := from; mid <= len(c.text); mid++ {
		if c.whole[stretch{w[0], from, mid}] && c.goesOn(w[1:], mid) {
			return true
		}
	}
	return c.goes[stretch{w[0], from, len(c.text)}]
}

func isTextOf(g, text string) bool {
	return newChart(g, text).derives(g[:1], 0, len(text))
}

func beginsTextOf(g, text string) bool {
	return newChart(g, text).goesOn(g[:1], 0)
}

// unwritten takes back what is written of one letter. It answers the letter,
// the small letters below it, and what comes behind.
func unwritten(t *testing.T, g, writing string) (letter, text, rest string) {
	if writing == "" {
		t.Fatal("the writing ends too early")
	}
	if writing[0] >= 'a' {
		return writing[:1], writing[:1], writing[1:]
	}
	rules := strings.Split(g, ";")
	number := int(writing[0] - '0')
	if number < 1 || number > len(rules) || !strings.HasPrefix(writing[1:], "(") {
		t.Fatalf("no rule of %q: %q", g, writing)
	}
	inside := ""
	rest = writing[2:]
	for !strings.HasPrefix(rest, ")") {
		one, more, behind := unwritten(t, g, rest)
		inside += one
		text += more
		rest = behind
	}
	r := rules[number-1]
	if inside != r[2:] {
		t.Errorf("%q: %q is written of rule %d", g, inside, number)
	}
	return r[:1], text, rest[1:]
}

// checkByChart holds Tree and Stop against the rules. There is just one way to
// make a text, so that a writing that is right is the one.
func checkByChart(t *testing.T, g, text string) {
	t.Helper()
	if !isTextOf(g, text) {
		wantTree(t, g, text, "", lrgen.ErrNone)
	} else {
		writing, fault := lrgen.Tree(g, text)
		if fault != lrgen.OK {
			t.Fatalf("Tree(%q, %q) = %q, %d", g, text, writing, fault)
		}
		letter, below, rest := unwritten(t, g, writing)
		if letter != g[:1] || below != text || rest != "" {
			t.Errorf("Tree(%q, %q) = %q", g, text, writing)
		}
	}
	at := len(text)
	for !beginsTextOf(g, text[:at]) {
		at--
	}
	signs := ""
	if isTextOf(g, text[:at]) {
		signs = "$"
	}
	for _, c := range allSigns[1:] {
		if beginsTextOf(g, text[:at]+string(c)) {
			signs += string(c)
		}
	}
	wantStop(t, g, text, at, signs, lrgen.OK)
}

// someTextOf answers a text of a grammar or, if none is found soon, some
// letters.
func someTextOf(source *rand.Rand, g string) string {
	rules := strings.Split(g, ";")
	for range 20 {
		w := g[:1]
		for range 60 {
			p := strings.IndexFunc(w, func(c rune) bool { return c < 'a' })
			if p < 0 && len(w) <= 12 {
				return w
			}
			r := rules[source.Intn(len(rules))]
			if p >= 0 && r[0] == w[p] && len(w) < 20 {
				w = w[:p] + r[2:] + w[p+1:]
			}
		}
	}
	return someText(source, "abcde", 12)
}

// spoilt answers a text with one byte put in, taken out or changed.
func spoilt(source *rand.Rand, text string) string {
	p := source.Intn(len(text) + 1)
	head, tail := text[:p], text[p:]
	if source.Intn(3) > 0 {
		head += "acebd"[source.Intn(5):][:1]
	}
	if source.Intn(3) > 0 && tail != "" {
		tail = tail[1:]
	}
	spoilt := head + tail
	return spoilt[:min(len(spoilt), 12)]
}

// Each text is read as it is, cut off, and spoilt.
func TestAgainstChartP9P10(t *testing.T) {
	source := rand.New(rand.NewSource(6))
	grammars := []string{chain, twoEnds, oneEnd, crossed, forty, expression}
	for range 300 {
		grammars = append(grammars, someWideGrammar(source))
	}
	for _, g := range grammars {
		class, fault := lrgen.Class(g)
		if fault == lrgen.OK && class == 0 {
			wantUnread(t, g, someText(source, "abc", 12), lrgen.ErrClash)
		}
		if fault != lrgen.OK || class == 0 {
			continue
		}
		for range 4 {
			text := someTextOf(source, g)
			checkByChart(t, g, text)
			checkByChart(t, g, text[:source.Intn(len(text)+1)])
			checkByChart(t, g, spoilt(source, text))
		}
	}
}
