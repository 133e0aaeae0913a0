package lrgen_test

import (
	"testing"

	"lrgen/lrgen"
)

func wantStates(t *testing.T, g string, want int, fault lrgen.Errno) {
	t.Helper()
	got, e := lrgen.States(g)
	if got != want || e != fault {
		t.Errorf("States(%.40q) = %d, %d, want %d, %d", g, got, e, want, fault)
	}
}

func wantStep(t *testing.T, g string, s int, x string, want int, fault lrgen.Errno) {
	t.Helper()
	got, e := lrgen.Step(g, s, x)
	if got != want || e != fault {
		t.Errorf("Step(%.40q, %d, %.20q) = %d, %d, want %d, %d", g, s, x, got, e, want, fault)
	}
}

func wantActs(t *testing.T, g string, s int, x string, want string, fault lrgen.Errno) {
	t.Helper()
	got, e := lrgen.Acts(g, s, x)
	if got != want || e != fault {
		t.Errorf("Acts(%.40q, %d, %.20q) = %q, %d, want %q, %d", g, s, x, got, e, want, fault)
	}
}

func wantCore(t *testing.T, g string, s int, want int, fault lrgen.Errno) {
	t.Helper()
	got, e := lrgen.Core(g, s)
	if got != want || e != fault {
		t.Errorf("Core(%.40q, %d) = %d, %d, want %d, %d", g, s, got, e, want, fault)
	}
}

func wantMix(t *testing.T, g string, c int, x string, want string, fault lrgen.Errno) {
	t.Helper()
	got, e := lrgen.Mix(g, c, x)
	if got != want || e != fault {
		t.Errorf("Mix(%.40q, %d, %.20q) = %q, %d, want %q, %d", g, c, x, got, e, want, fault)
	}
}

func wantClass(t *testing.T, g string, want int, fault lrgen.Errno) {
	t.Helper()
	got, e := lrgen.Class(g)
	if got != want || e != fault {
		t.Errorf("Class(%.40q) = %d, %d, want %d, %d", g, got, e, want, fault)
	}
}

func wantTree(t *testing.T, g, text, want string, fault lrgen.Errno) {
	t.Helper()
	got, e := lrgen.Tree(g, text)
	if got != want || e != fault {
		t.Errorf("Tree(%.40q, %.20q) = %q, %d, want %q, %d", g, text, got, e, want, fault)
	}
}

func wantStop(t *testing.T, g, text string, want int, signs string, fault lrgen.Errno) {
	t.Helper()
	got, list, e := lrgen.Stop(g, text)
	if got != want || list != signs || e != fault {
		t.Errorf("Stop(%.40q, %.20q) = %d, %q, %d, want %d, %q, %d", g, text, got, list, e, want, signs, fault)
	}
}

// wantUnread asks that a text is not read, for one reason.
func wantUnread(t *testing.T, g, text string, fault lrgen.Errno) {
	t.Helper()
	wantTree(t, g, text, "", fault)
	wantStop(t, g, text, 0, "", fault)
}

// wantRefused asks that each call on tables and texts answers an error of the
// grammar, whatever state, sign and text it is asked for.
func wantRefused(t *testing.T, g string, fault lrgen.Errno) {
	t.Helper()
	wantStates(t, g, 0, fault)
	wantClass(t, g, 0, fault)
	for _, text := range []string{"", "a", "aaaaaaaaaaaa", "S", "a?", "\xff"} {
		wantUnread(t, g, text, fault)
	}
	for _, n := range []int{-1, 0, 40} {
		wantCore(t, g, n, 0, fault)
		for _, x := range []string{"", "a", "S", "$", "aa", "?"} {
			wantStep(t, g, n, x, 0, fault)
			wantActs(t, g, n, x, "", fault)
			wantMix(t, g, n, x, "", fault)
		}
	}
}
