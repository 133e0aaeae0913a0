package lrgen_test

import (
	"strings"
	"testing"

	"lrgen/lrgen"
)

const (
	chain    = "S=AS;S=;A=a"      // big letters are stepped by in the order of bytes
	twoEnds  = "S=aBx;S=bB;B=c"   // the states 5 and 7 differ in their signs alone
	oneEnd   = "S=aB;S=bB;B=c;B=" // two steps lead to one state
	crossed  = "S=xAy;S=xBz;S=Az;S=By;A=w;B=w"
	forty    = "S=SSSa;S=eSce;S=eaae"
	fortyOne = "S=acaa;S=aSa;S=ccSc;S=cacS"
)

func TestStatesP6(t *testing.T) {
	for _, c := range []struct {
		g      string
		states int
	}{
		{"S=", 2},
		{"S=a", 3},
		{"S=abcd", 6},
		{"S=S;S=", 2},
		{chain, 5},
		{twoEnds, 9},
		{oneEnd, 7},
		{"S=a;S=b;S=c;S=d;S=e;S=f;S=g;S=h", 10},
		{forty, 40},
		{"S=cSSd;S=SSSe;S=c;S=aac", 40},
	} {
		wantStates(t, c.g, c.states, lrgen.OK)
	}
}

func TestStepP6(t *testing.T) {
	for _, c := range []struct {
		g string
		s int
		// steps is what is reached by the letters that lead anywhere
		steps string
	}{
		{"S=", 0, "S1"},
		{"S=", 1, ""},
		{chain, 0, "A1 S2 a3"},
		{chain, 1, "A1 S4 a3"},
		{chain, 2, ""},
		{chain, 3, ""},
		{chain, 4, ""},
		{twoEnds, 0, "S1 a2 b3"},
		{twoEnds, 2, "B4 c5"},
		{twoEnds, 3, "B6 c7"},
		{twoEnds, 4, "x8"},
		{oneEnd, 2, "B4 c5"},
		{oneEnd, 3, "B6 c5"},
		{"Z=aZ;Z=zA;A=", 0, "Z1 a2 z3"},
		{"Z=aZ;Z=zA;A=", 2, "Z4 a2 z3"},
		{"Z=aZ;Z=zA;A=", 3, "A5"},
		{forty, 39, ""},
	} {
		for _, x := range strings.Split(allLetters, "") {
			want := -1
			for _, step := range strings.Fields(c.steps) {
				if step[:1] == x {
					want = int(step[1] - '0')
				}
			}
			wantStep(t, c.g, c.s, x, want, lrgen.OK)
		}
	}
}

func TestActsP6(t *testing.T) {
	for _, c := range []struct {
		g       string
		s       int
		x, acts string
	}{
		{"S=", 0, "$", "1"},
		{"S=", 1, "$", "0"},
		{"S=", 0, "a", ""},
		{chain, 0, "$", "2"},
		{chain, 0, "a", "s"},
		{chain, 1, "$", "2"},
		{chain, 2, "$", "0"},
		{chain, 2, "a", ""},
		{chain, 3, "$", "3"},
		{chain, 3, "a", "3"},
		{chain, 3, "b", ""},
		{chain, 4, "$", "1"},
		{twoEnds, 5, "x", "3"},
		{twoEnds, 5, "$", ""},
		{twoEnds, 7, "x", ""},
		{twoEnds, 7, "$", "3"},
		{"S=S;S=", 0, "$", "2"},
		{"S=S;S=", 1, "$", "01"},
		{"S=a;S=a", 2, "$", "12"},
		{"S=A;S=B;S=a;A=a;B=a", 4, "$", "345"},
		{"S=Ab;S=Bb;S=ab;A=a;B=a", 4, "b", "s45"},
		{"S=Ab;S=Bb;S=ab;A=a;B=a", 4, "$", ""},
		{"S=;S=;S=;S=;S=;S=;S=;S=", 0, "$", "12345678"},
		{"S=a;S=b;S=c;S=d;S=e;S=f;S=g;S=h", 9, "$", "8"},
		{"S=abcd", 5, "$", "1"},
		{"S=abcd", 4, "d", "s"},
	} {
		wantActs(t, c.g, c.s, c.x, c.acts, lrgen.OK)
	}
}

func TestCoreP7(t *testing.T) {
	for _, c := range []struct {
		g     string
		cores []int
	}{
		{"S=", []int{0, 1}},
		{chain, []int{0, 1, 2, 3, 4}},
		{twoEnds, []int{0, 1, 2, 3, 4, 5, 6, 5, 7}},
		{oneEnd, []int{0, 1, 2, 3, 4, 5, 6}},
		{"S=aSb;S=", []int{0, 1, 2, 3, 2, 4, 3, 4}},
		{crossed, []int{0, 1, 2, 3, 4, 5, 6, 7, 8, 9, 4, 10, 11}},
	} {
		for s, core := range c.cores {
			wantCore(t, c.g, s, core, lrgen.OK)
		}
		wantStates(t, c.g, len(c.cores), lrgen.OK)
	}
}

func TestMixP7(t *testing.T) {
	for _, c := range []struct {
		g      string
		c      int
		x, mix string
	}{
		{twoEnds, 5, "x", "3"},
		{twoEnds, 5, "$", "3"},
		{twoEnds, 5, "c", ""},
		{twoEnds, 7, "$", "1"},
		{twoEnds, 2, "c", "s"},
		{"S=aSb;S=", 2, "a", "s"},
		{"S=aSb;S=", 4, "$", "1"},
		{"S=aSb;S=", 4, "b", "1"},
		{crossed, 4, "y", "56"},
		{crossed, 4, "z", "56"},
		{crossed, 4, "$", ""},
		{crossed, 11, "$", "2"},
		{"S=S;S=", 1, "$", "01"},
		{"S=Ab;S=Bb;S=ab;A=a;B=a", 4, "b", "s45"},
		{"S=;S=;S=;S=;S=;S=;S=;S=", 0, "$", "12345678"},
	} {
		wantMix(t, c.g, c.c, c.x, c.mix, lrgen.OK)
	}
}

func TestClassP8(t *testing.T) {
	for _, c := range []struct {
		g     string
		class int
	}{
		{"S=", 2},
		{chain, 2},
		{twoEnds, 2},
		{expression, 2},
		{forty, 2},
		{"S=aAc;S=aBd;S=bAd;S=bBc;A=;B=", 2},
		{crossed, 1},
		{"S=xAy;S=xBz;S=vAz;S=vBy;A=w;B=w", 1},
		{"S=A;S=Bz;S=yAz;S=yB;A=q;B=q", 1},
		{"S=A;S=Bz;S=xAw;S=xB;A=yyy;B=yyy", 1}, // the last core clashes
		{"S=S;S=", 0},
		{"S=a;S=a", 0},
		{"S=;S=", 0},
		{"S=SS;S=", 0},
		{"S=aSa;S=a", 0},
		{"S=Ab;S=ab;A=a", 0},
		{"S=aaaB;B=b;B=b", 0}, // the last state clashes
		{"S=cSSd;S=SSSe;S=c;S=aac", 0},
	} {
		wantClass(t, c.g, c.class, lrgen.OK)
	}
}

// The clashing signs are `$`, the first letter and the last one.
func TestClassSeesEachSignP8(t *testing.T) {
	for _, x := range []string{"", "a", "m", "z"} {
		wantClass(t, "S=A"+x+";S=B"+x+";A=q;B=q", 0, lrgen.OK)
		wantClass(t, "S=A"+x+";S=Bj;S=yAk;S=yB"+x+";A=q;B=q", 1, lrgen.OK)
		wantClass(t, "S=A"+x+";S=Bj;S=yA"+x+";S=yBi;A=q;B=q", 2, lrgen.OK)
	}
}

func TestGrammarErrorsP6ToP10(t *testing.T) {
	for _, c := range []struct {
		g     string
		fault lrgen.Errno
	}{
		{strings.Repeat("S", 33), lrgen.ErrLong},
		{"S=aaaa;S=bbbb;S=cccc;S=dddd;S=eee", lrgen.ErrLong},
		{"", lrgen.ErrRule},
		{"S=a;", lrgen.ErrRule},
		{"S=;S=;S=;S=;S=;S=;S=;S=;S=", lrgen.ErrRule},
		{"S=aT", lrgen.ErrName},
		{"S=aS", lrgen.ErrDead},
		{"S=a;T=b", lrgen.ErrDead},
		{fortyOne, lrgen.ErrMany},
		{"S=bSSA;A=aA;A=beS;S=cc;A=SA", lrgen.ErrMany},
		{"S=eS;S=ceSe;S=bSac;S=bbbb", lrgen.ErrMany},
		{"S=aSSb;S=cSSd;S=eSSf;S=gSSh;S=i", lrgen.ErrMany},
	} {
		wantRefused(t, c.g, c.fault)
	}
}

func TestNoSuchStateOrCoreP6P7(t *testing.T) {
	const most = 1<<63 - 1
	for _, c := range []struct {
		g             string
		states, cores int
	}{
		{"S=a", 3, 3},
		{twoEnds, 9, 8},
		{crossed, 13, 12},
		{forty, 40, newModel(forty, 40).coreCount()},
	} {
		for _, s := range []int{c.states, c.states + 1, 41, most, -1, -most - 1} {
			wantCore(t, c.g, s, 0, lrgen.ErrState)
			for _, x := range []string{"a", "S", "$", "", "?", "aa"} {
				wantStep(t, c.g, s, x, 0, lrgen.ErrState)
				wantActs(t, c.g, s, x, "", lrgen.ErrState)
				wantMix(t, c.g, s, x, "", lrgen.ErrState)
			}
		}
		wantMix(t, c.g, c.cores, "$", "", lrgen.ErrState)
		wantMix(t, c.g, c.cores-1, "", "", lrgen.ErrWord)
		wantStep(t, c.g, c.states-1, "", 0, lrgen.ErrWord)
		wantActs(t, c.g, c.states-1, "", "", lrgen.ErrWord)
	}
}

func TestEachByteAsLetterOrSignP6P7(t *testing.T) {
	for b := 0; b < 256; b++ {
		x := string([]byte{byte(b)})
		small := b >= 'a' && b <= 'z'
		letter := small || b >= 'A' && b <= 'Z'
		wantTaken(t, x, letter, small || x == "$")
	}
	for _, x := range []string{"", "aa", "SS", "$$", "a$", "$a", "é", strings.Repeat("a", 1000)} {
		wantTaken(t, x, false, false)
	}
}

// wantTaken asks whether x is taken for a letter, and whether for a sign.
func wantTaken(t *testing.T, x string, letter, sign bool) {
	faults := map[bool]lrgen.Errno{true: lrgen.OK, false: lrgen.ErrWord}
	nowhere := map[bool]int{true: -1, false: 0}
	wantStep(t, "S=", 1, x, nowhere[letter], faults[letter])
	wantActs(t, "S=;S=S", 0, x, map[bool]string{true: "1"}[x == "$"], faults[sign])
	wantMix(t, "S=;S=S", 0, x, map[bool]string{true: "1"}[x == "$"], faults[sign])
}

// Each letter of the alphabet is the one that leads on.
func TestEachLetterP6P7(t *testing.T) {
	for i := 0; i < 26; i++ {
		big := string(rune('A' + i))
		small := string(rune('a' + i))
		g := big + "=" + big + small + ";" + big + "="
		wantStep(t, g, 0, big, 1, lrgen.OK)
		wantStep(t, g, 1, small, 2, lrgen.OK)
		wantActs(t, g, 0, small, "2", lrgen.OK)
		wantActs(t, g, 1, small, "s", lrgen.OK)
		wantMix(t, g, 1, small, "s", lrgen.OK)
		wantMix(t, g, 2, small, "1", lrgen.OK)
		wantClass(t, g, 2, lrgen.OK)
	}
}
