package lrgen_test

import (
	"fmt"
	"math/rand"
	"sort"
	"strings"
	"testing"

	"lrgen/lrgen"
)

const (
	allLetters = "ABCDEFGHIJKLMNOPQRSTUVWXYZabcdefghijklmnopqrstuvwxyz"
	allSigns   = "$abcdefghijklmnopqrstuvwxyz"
)

// item, itemMap and model are the document's words on tables, taken as
// plainly as can be; nothing bounds the number of states here.
type item struct {
	rule, place int
	sign        byte
}

type itemMap map[item]bool

type model struct {
	g      string
	lefts  []string
	rights []string
	states []itemMap
	keys   []string
	steps  []map[byte]int
	cores  []int
}

func newModel(g string, most int) *model {
	m := &model{g: g, lefts: []string{""}, rights: []string{g[:1]}}
	for _, r := range strings.Split(g, ";") {
		m.lefts = append(m.lefts, r[:1])
		m.rights = append(m.rights, r[2:])
	}
	m.number(m.full(itemMap{{0, 0, '$'}: true}))
	for n := 0; n < len(m.states) && n <= most; n++ {
		m.steps = append(m.steps, map[byte]int{})
		for _, c := range []byte(allLetters) {
			to := m.step(m.states[n], c)
			if len(to) > 0 {
				m.steps[n][c] = m.number(to)
			}
		}
	}
	m.findCores()
	return m
}

// signsBehind answers the signs that can begin what comes behind the letter at
// an item's place.
func (m *model) signsBehind(i item) string {
	rest := m.rights[i.rule][i.place+1:]
	signs, _ := lrgen.First(m.g, rest)
	null, _ := lrgen.Null(m.g, rest)
	if null {
		signs += string(i.sign)
	}
	return signs
}

func (m *model) full(s itemMap) itemMap {
	var open []item
	for i := range s {
		open = append(open, i)
	}
	for len(open) > 0 {
		i := open[0]
		open = open[1:]
		right := m.rights[i.rule]
		for r, left := range m.lefts {
			if i.place >= len(right) || right[i.place:i.place+1] != left {
				continue
			}
			for _, sign := range []byte(m.signsBehind(i)) {
				next := item{r, 0, sign}
				if !s[next] {
					s[next] = true
					open = append(open, next)
				}
			}
		}
	}
	return s
}

func (m *model) step(s itemMap, c byte) itemMap {
	to := itemMap{}
	for i := range s {
		right := m.rights[i.rule]
		if i.place < len(right) && right[i.place] == c {
			to[item{i.rule, i.place + 1, i.sign}] = true
		}
	}
	return m.full(to)
}

func (s itemMap) key(signs bool) string {
	found := map[string]bool{}
	for i := range s {
		if !signs {
			i.sign = ' '
		}
		found[fmt.Sprint(i)] = true
	}
	var all []string
	for k := range found {
		all = append(all, k)
	}
	sort.Strings(all)
	return strings.Join(all, " ")
}

func (m *model) number(s itemMap) int {
	key := s.key(true)
	for n, k := range m.keys {
		if k == key {
			return n
		}
	}
	m.states = append(m.states, s)
	m.keys = append(m.keys, key)
	return len(m.keys) - 1
}

func (m *model) findCores() {
	met := map[string]int{}
	for _, s := range m.states {
		key := s.key(false)
		if _, known := met[key]; !known {
			met[key] = len(met)
		}
		m.cores = append(m.cores, met[key])
	}
}

func (m *model) coreCount() int {
	count := 0
	for _, core := range m.cores {
		count = max(count, core+1)
	}
	return count
}

func (m *model) acts(n int, sign byte) string {
	acts := ""
	if _, goes := m.steps[n][sign]; goes {
		acts = "s"
	}
	for r, right := range m.rights {
		if m.states[n][item{r, len(right), sign}] {
			acts += fmt.Sprint(r)
		}
	}
	return acts
}

func (m *model) mix(core int, sign byte) string {
	together := ""
	for n := range m.states {
		if m.cores[n] == core {
			together += m.acts(n, sign)
		}
	}
	acts := ""
	for _, c := range "s012345678" {
		if strings.ContainsRune(together, c) {
			acts += string(c)
		}
	}
	return acts
}

func (m *model) class() int {
	class := 2
	for n := range m.states {
		for _, sign := range []byte(allSigns) {
			if len(m.acts(n, sign)) > 1 {
				return 0
			}
			if len(m.mix(m.cores[n], sign)) > 1 {
				class = 1
			}
		}
	}
	return class
}

// someWideGrammar answers a grammar without a fault, up to the limits.
func someWideGrammar(source *rand.Rand) string {
	for {
		bigs := "SAB"[:1+source.Intn(3)]
		smalls := "acebd"[:1+source.Intn(5)]
		var rules []string
		for range 1 + source.Intn(8) {
			left := bigs[source.Intn(len(bigs)):][:1]
			rules = append(rules, left+"="+someText(source, bigs+smalls, 4))
		}
		g := strings.Join(rules, ";")
		if fault, _ := lrgen.Check(g); fault == lrgen.OK {
			return g
		}
	}
}

func checkByModel(t *testing.T, g string) {
	m := newModel(g, 40)
	if len(m.states) > 40 {
		wantRefused(t, g, lrgen.ErrMany)
		return
	}
	wantStates(t, g, len(m.states), lrgen.OK)
	wantClass(t, g, m.class(), lrgen.OK)
	for n, core := range m.cores {
		wantCore(t, g, n, core, lrgen.OK)
		for _, x := range []byte("SABacez") {
			to, goes := m.steps[n][x]
			if !goes {
				to = -1
			}
			wantStep(t, g, n, string(x), to, lrgen.OK)
		}
		for _, x := range []byte("$acez") {
			wantActs(t, g, n, string(x), m.acts(n, x), lrgen.OK)
			wantMix(t, g, core, string(x), m.mix(core, x), lrgen.OK)
		}
	}
	wantCore(t, g, len(m.states), 0, lrgen.ErrState)
	wantMix(t, g, m.coreCount(), "$", "", lrgen.ErrState)
}

// The tables are held against those that are made by the document's words.
func TestAgainstModelP6P7P8(t *testing.T) {
	source := rand.New(rand.NewSource(5))
	for range 200 {
		checkByModel(t, someWideGrammar(source))
	}
	for _, g := range []string{chain, twoEnds, oneEnd, crossed, forty, fortyOne, expression} {
		checkByModel(t, g)
	}
}
