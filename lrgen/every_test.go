package lrgen_test

import (
	"fmt"
	"math/rand"
	"strings"
	"testing"
	"time"

	"lrgen/lrgen"
)

// answers lays what the built calls answer into one text.
func answers(g, w string) string {
	fault, place := lrgen.Check(g)
	null, nullFault := lrgen.Null(g, w)
	first, firstFault := lrgen.First(g, w)
	follow, followFault := lrgen.Follow(g, w)
	return fmt.Sprint(fault, place, null, nullFault, first, firstFault, follow, followFault)
}

// callAll makes every call, those too that are not built yet.
func callAll(g, w string, n int) {
	lrgen.Check(g)
	lrgen.Null(g, w)
	lrgen.First(g, w)
	lrgen.Follow(g, w)
	lrgen.States(g)
	lrgen.Step(g, n, w)
	lrgen.Acts(g, n, w)
	lrgen.Core(g, n)
	lrgen.Mix(g, n, w)
	lrgen.Class(g)
	lrgen.Tree(g, w)
	lrgen.Stop(g, w)
}

func someText(source *rand.Rand, bytes string, most int) string {
	text := make([]byte, source.Intn(most+1))
	for i := range text {
		text[i] = bytes[source.Intn(len(bytes))]
	}
	return string(text)
}

func TestEveryCallEndsP1(t *testing.T) {
	source := rand.New(rand.NewSource(2))
	for i := range 20000 {
		g := someText(source, "SAab=;$\x00\xff", 40)
		if i%2 == 0 {
			g = someGrammar(source)
		}
		w := someText(source, "SAab$=\x00\xff", 15)
		callAll(g, w, source.Intn(100)-50)
	}
	callAll("S=a", "a", -1<<63)
	callAll("S=a", "a", 1<<63-1)
}

// With an error every other result is zero, but for Check's place.
func TestErrorsLeaveZeroP1(t *testing.T) {
	source := rand.New(rand.NewSource(3))
	for range 20000 {
		g := someGrammar(source)
		w := someText(source, "SAab$", 14)
		null, fault := lrgen.Null(g, w)
		if fault != lrgen.OK && null {
			t.Errorf("Null(%q, %q) = true, %d", g, w, fault)
		}
		first, fault := lrgen.First(g, w)
		if fault != lrgen.OK && first != "" {
			t.Errorf("First(%q, %q) = %q, %d", g, w, first, fault)
		}
		follow, fault := lrgen.Follow(g, w)
		if fault != lrgen.OK && follow != "" {
			t.Errorf("Follow(%q, %q) = %q, %d", g, w, follow, fault)
		}
	}
}

// A length is known at once; reading these strings would take far longer than
// the time that is granted here.
func TestLongStringsCostNothingP1(t *testing.T) {
	long := strings.Repeat("S=a;", 1<<24)
	begin := time.Now()
	for range 2000 {
		fault, place := lrgen.Check(long)
		if fault != lrgen.ErrLong || place != 0 {
			t.Fatalf("Check(long) = %d, %d", fault, place)
		}
		for _, c := range [][2]string{{long, "S"}, {"S=a", long}, {"", long}, {long, long}} {
			wantNull(t, c[0], c[1], false, lrgen.ErrLong)
			wantFirst(t, c[0], c[1], "", lrgen.ErrLong)
			wantFollow(t, c[0], c[1], "", lrgen.ErrLong)
		}
		if time.Since(begin) > 10*time.Second {
			t.Fatal("long strings are read ahead of being refused")
		}
	}
}

// Calls in another order, with others between, answer as they did.
func TestNothingIsKeptP2(t *testing.T) {
	source := rand.New(rand.NewSource(4))
	var grammars, words, before []string
	for range 500 {
		g := someGrammar(source)
		w := someText(source, "SAab", 2)
		grammars = append(grammars, g)
		words = append(words, w)
		before = append(before, answers(g, w))
	}
	for i := len(grammars) - 1; i >= 0; i-- {
		callAll(expression, "E", i)
		after := answers(grammars[i], words[i])
		if after != before[i] {
			t.Errorf("%q, %q: %s, but before: %s", grammars[i], words[i], after, before[i])
		}
	}
}

func TestErrorNumbers(t *testing.T) {
	for i, e := range []lrgen.Errno{
		lrgen.OK, lrgen.ErrLong, lrgen.ErrRule, lrgen.ErrName, lrgen.ErrDead,
		lrgen.ErrWord, lrgen.ErrMany, lrgen.ErrState, lrgen.ErrClash, lrgen.ErrNone,
	} {
		if int(e) != i {
			t.Errorf("the error named %d-th has the number %d", i, e)
		}
	}
}
