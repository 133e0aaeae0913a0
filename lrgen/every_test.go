package lrgen_test

import (
	"fmt"
	"math/rand"
	"strings"
	"testing"
	"time"

	"lrgen/lrgen"
)

// answers lays what all calls answer into one text.
func answers(g, w string, n int) string {
	fault, place := lrgen.Check(g)
	null, nullFault := lrgen.Null(g, w)
	first, firstFault := lrgen.First(g, w)
	follow, followFault := lrgen.Follow(g, w)
	states, statesFault := lrgen.States(g)
	step, stepFault := lrgen.Step(g, n, w)
	acts, actsFault := lrgen.Acts(g, n, w)
	core, coreFault := lrgen.Core(g, n)
	mix, mixFault := lrgen.Mix(g, n, w)
	class, classFault := lrgen.Class(g)
	tree, treeFault := lrgen.Tree(g, w)
	at, signs, stopFault := lrgen.Stop(g, w)
	return fmt.Sprint(fault, place, null, nullFault, first, firstFault, follow, followFault,
		states, statesFault, step, stepFault, acts, actsFault, core, coreFault, mix, mixFault, class, classFault,
		tree, treeFault, at, signs, stopFault)
}

func someText(source *rand.Rand, bytes string, most int) string {
	text := make([]byte, source.Intn(most+1))
	for i := range text {
		text[i] = bytes[source.Intn(len(bytes))]
	}
	return string(text)
}

func TestEveryCallEndsP1(t *testing.T) {
	source := rand.New(rand.NewSource(2))
	for i := range 20000 {
		g := someText(source, "SAab=;$\x00\xff", 40)
		if i%2 == 0 {
			g = someGrammar(source)
		}
		w := someText(source, "SAab$=\x00\xff", 15)
		answers(g, w, source.Intn(100)-50)
	}
	answers("S=a", "a", -1<<63)
	answers("S=a", "a", 1<<63-1)
}

// With an error every other result is zero, but for Check's place.
func TestErrorsLeaveZeroP1(t *testing.T) {
	source := rand.New(rand.NewSource(3))
	for range 10000 {
		g := someGrammar(source)
		w := someText(source, "SAab$", source.Intn(14))
		tablesLeaveZero(t, g, w, source.Intn(12)-2)
		textsLeaveZero(t, g, w)
		null, fault := lrgen.Null(g, w)
		if fault != lrgen.OK && null {
			t.Errorf("Null(%q, %q) = true, %d", g, w, fault)
		}
		first, fault := lrgen.First(g, w)
		if fault != lrgen.OK && first != "" {
			t.Errorf("First(%q, %q) = %q, %d", g, w, first, fault)
		}
		follow, fault := lrgen.Follow(g, w)
		if fault != lrgen.OK && follow != "" {
			t.Errorf("Follow(%q, %q) = %q, %d", g, w, follow, fault)
		}
	}
}

func tablesLeaveZero(t *testing.T, g, w string, n int) {
	states, fault := lrgen.States(g)
	if fault != lrgen.OK && states != 0 {
		t.Errorf("States(%q) = %d, %d", g, states, fault)
	}
	step, fault := lrgen.Step(g, n, w)
	if fault != lrgen.OK && step != 0 {
		t.Errorf("Step(%q, %d, %q) = %d, %d", g, n, w, step, fault)
	}
	acts, fault := lrgen.Acts(g, n, w)
	if fault != lrgen.OK && acts != "" {
		t.Errorf("Acts(%q, %d, %q) = %q, %d", g, n, w, acts, fault)
	}
	core, fault := lrgen.Core(g, n)
	if fault != lrgen.OK && core != 0 {
		t.Errorf("Core(%q, %d) = %d, %d", g, n, core, fault)
	}
	mix, fault := lrgen.Mix(g, n, w)
	if fault != lrgen.OK && mix != "" {
		t.Errorf("Mix(%q, %d, %q) = %q, %d", g, n, w, mix, fault)
	}
	class, fault := lrgen.Class(g)
	if fault != lrgen.OK && class != 0 {
		t.Errorf("Class(%q) = %d, %d", g, class, fault)
	}
}

func textsLeaveZero(t *testing.T, g, w string) {
	tree, fault := lrgen.Tree(g, w)
	if fault != lrgen.OK && tree != "" {
		t.Errorf("Tree(%q, %q) = %q, %d", g, w, tree, fault)
	}
	at, signs, fault := lrgen.Stop(g, w)
	if fault != lrgen.OK && (at != 0 || signs != "") {
		t.Errorf("Stop(%q, %q) = %d, %q, %d", g, w, at, signs, fault)
	}
}

// A length is known at once; reading these strings would take far longer than
// the time that is granted here.
func TestLongStringsCostNothingP1(t *testing.T) {
	long := strings.Repeat("S=a;", 1<<24)
	begin := time.Now()
	for range 2000 {
		fault, place := lrgen.Check(long)
		if fault != lrgen.ErrLong || place != 0 {
			t.Fatalf("Check(long) = %d, %d", fault, place)
		}
		for _, c := range [][2]string{{long, "S"}, {"S=a", long}, {"", long}, {long, long}} {
			wantNull(t, c[0], c[1], false, lrgen.ErrLong)
			wantFirst(t, c[0], c[1], "", lrgen.ErrLong)
			wantFollow(t, c[0], c[1], "", lrgen.ErrLong)
			wantUnread(t, c[0], c[1], lrgen.ErrLong)
		}
		wantStates(t, long, 0, lrgen.ErrLong)
		wantClass(t, long, 0, lrgen.ErrLong)
		wantCore(t, long, 0, 0, lrgen.ErrLong)
		for _, x := range []string{"a", long} {
			wantStep(t, long, 0, x, 0, lrgen.ErrLong)
			wantActs(t, long, 0, x, "", lrgen.ErrLong)
			wantMix(t, long, 0, x, "", lrgen.ErrLong)
		}
		wantStep(t, "S=", 0, long, 0, lrgen.ErrWord)
		wantActs(t, "S=", 0, long, "", lrgen.ErrWord)
		wantMix(t, "S=", 0, long, "", lrgen.ErrWord)
		if time.Since(begin) > 10*time.Second {
			t.Fatal("long strings are read ahead of being refused")
		}
	}
}

// Calls in another order, with others between, answer as they did.
func TestNothingIsKeptP2(t *testing.T) {
	source := rand.New(rand.NewSource(4))
	var grammars, words, before []string
	for i := range 500 {
		g := someGrammar(source)
		w := someText(source, "SAab$", 2)
		if i%2 == 0 {
			w = someText(source, "ab", 4)
		}
		grammars = append(grammars, g)
		words = append(words, w)
		before = append(before, answers(g, w, i%5))
	}
	for i := len(grammars) - 1; i >= 0; i-- {
		answers(expression, "E", i)
		answers(expression, "lipirmi", i)
		after := answers(grammars[i], words[i], i%5)
		if after != before[i] {
			t.Errorf("%q, %q: %s, but before: %s", grammars[i], words[i], after, before[i])
		}
	}
}

func TestErrorNumbers(t *testing.T) {
	for i, e := range []lrgen.Errno{
		lrgen.OK, lrgen.ErrLong, lrgen.ErrRule, lrgen.ErrName, lrgen.ErrDead,
		lrgen.ErrWord, lrgen.ErrMany, lrgen.ErrState, lrgen.ErrClash, lrgen.ErrNone,
	} {
		if int(e) != i {
			t.Errorf("the error named %d-th has the number %d", i, e)
		}
	}
}
