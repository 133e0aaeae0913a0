package lrgen_test

import (
	"regexp"
	"strings"
	"testing"

	"lrgen/lrgen"
)

// expression is a grammar in which letters both begin and nest each other.
const expression = "E=EpT;E=T;T=TmF;T=F;F=lEr;F=i"

func TestCheckP3(t *testing.T) {
	for _, c := range []struct {
		g     string
		fault lrgen.Errno
		place int
	}{
		{"S=", lrgen.OK, 0},
		{"Z=z", lrgen.OK, 0},
		{"A=A;A=", lrgen.OK, 0},
		{expression, lrgen.OK, 0},
		{"S=aaaa", lrgen.OK, 0},
		{"S=;S=;S=;S=;S=;S=;S=;S=", lrgen.OK, 0},
		{"S=aaaa;S=bbbb;S=cccc;S=dddd;S=ee", lrgen.OK, 0},
		{"S=H;H=G;G=F;F=E;E=D;D=C;C=B;B=b", lrgen.OK, 0},
		{"S=H;B=b;C=B;D=C;E=D;F=E;G=F;H=G", lrgen.OK, 0},

		{strings.Repeat("x", 33), lrgen.ErrLong, 0},
		{"S=aaaa;S=bbbb;S=cccc;S=dddd;S=eee", lrgen.ErrLong, 0},
		{strings.Repeat("x", 32), lrgen.ErrRule, 0},

		{"", lrgen.ErrRule, 0},
		{"S", lrgen.ErrRule, 1},
		{"S=;", lrgen.ErrRule, 3},
		{"S=a;T", lrgen.ErrRule, 5},
		{";", lrgen.ErrRule, 0},
		{"S;", lrgen.ErrRule, 1},
		{"SS=", lrgen.ErrRule, 1},
		{"S=a;a=b", lrgen.ErrRule, 4},
		{"S=a;;", lrgen.ErrRule, 4},
		{"S=a,b", lrgen.ErrRule, 3},
		{"S=aBcD=", lrgen.ErrRule, 6},
		{"S=abcde", lrgen.ErrRule, 6},
		{"S=a;S=abcde;?", lrgen.ErrRule, 10},
		{"S=\x00", lrgen.ErrRule, 2},
		{"S=a\xff", lrgen.ErrRule, 3},
		{" S=a", lrgen.ErrRule, 0},
		{"S=;S=;S=;S=;S=;S=;S=;S=;", lrgen.ErrRule, 23},
		{"S=;S=;S=;S=;S=;S=;S=;S=;S=", lrgen.ErrRule, 23},
		{"S=aaaa;S=bbbb;S=cccc;S=dddd;S=e;", lrgen.ErrRule, 32},
		{"S=aaaa;S=bbbb;S=cccc;S=dddd;S=;S", lrgen.ErrRule, 32},

		{"S=A", lrgen.ErrName, 2},
		{"S=aSbA;S=", lrgen.ErrName, 5},
		{"S=;T=aB;U=C", lrgen.ErrName, 6},
		{"S=S;T=TU", lrgen.ErrName, 7},
		{"S=A;a", lrgen.ErrRule, 4},

		{"S=S", lrgen.ErrDead, 0},
		{"S=aSa;S=SS", lrgen.ErrDead, 0},
		{"S=;A=", lrgen.ErrDead, 3},
		{"S=;S=A;A=A", lrgen.ErrDead, 7},
		{"S=a;A=S;S=b", lrgen.ErrDead, 4},
		{"S=a;S=T;U=u;T=TU", lrgen.ErrDead, 12},
		{"S=a;T=U;U=T;S=T", lrgen.ErrDead, 4},
		{"S=;T=U;U=T;T=t;U=", lrgen.ErrDead, 3},
		{"S=AB;A=a;B=AB", lrgen.ErrDead, 0},
	} {
		fault, place := lrgen.Check(c.g)
		if fault != c.fault || place != c.place {
			t.Errorf("Check(%q) = %d, %d, want %d, %d", c.g, fault, place, c.fault, c.place)
		}
	}
}

// Each byte is laid at each place of a rule, so that none of the 256 is taken
// for a letter, or refused as one, by mistake.
func TestCheckEachByteP3(t *testing.T) {
	for b := 0; b < 256; b++ {
		c := string([]byte{byte(b)})
		big := b >= 'A' && b <= 'Z'
		letter := big || b >= 'a' && b <= 'z'
		wantPlace(t, c+"=a", big, 0)
		wantPlace(t, "S"+c+"a", c == "=", 1)
		wantPlace(t, "S=a"+c+"S=b", letter || c == ";", 3)
		wantPlace(t, "S=abcd"+c+"S=b", c == ";", 6)
	}
}

// wantPlace asks that g is refused at a place with ErrRule, or that it gets
// over that place, if good.
func wantPlace(t *testing.T, g string, good bool, place int) {
	fault, at := lrgen.Check(g)
	refused := fault == lrgen.ErrRule && at <= place
	if refused == good || refused && at != place {
		t.Errorf("Check(%q) = %d, %d: may it go on at %d: %v", g, fault, at, place, good)
	}
}

var grammarForm = regexp.MustCompile(`\A[A-Z]=[A-Za-z]{0,4}(;[A-Z]=[A-Za-z]{0,4}){0,7}\z`)

// canGoOn tells whether some text that begins so is a grammar by its form.
func canGoOn(begin string) bool {
	for _, rest := range []string{"", "=", "A="} {
		if grammarForm.MatchString(begin + rest) {
			return true
		}
	}
	return false
}

// firstWrongPlace answers -1 for a text that is a grammar by its form.
func firstWrongPlace(g string) int {
	if grammarForm.MatchString(g) {
		return -1
	}
	for p := 0; p < len(g); p++ {
		if !canGoOn(g[:p+1]) {
			return p
		}
	}
	return len(g)
}

func checkForm(t *testing.T, g string) {
	place := firstWrongPlace(g)
	fault, at := lrgen.Check(g)
	if (place >= 0) != (fault == lrgen.ErrRule) || place >= 0 && at != place {
		t.Errorf("Check(%q) = %d, %d, but the first wrong place is %d", g, fault, at, place)
	}
}

func TestCheckFormOfAllShortTextsP3(t *testing.T) {
	texts := []string{""}
	for length := 0; length <= 6; length++ {
		var longer []string
		for _, g := range texts {
			checkForm(t, g)
			for _, c := range "Sa=; " {
				longer = append(longer, g+string(c))
			}
		}
		texts = longer
	}
}

func TestCheckFormOfSpoiledTextsP3(t *testing.T) {
	for _, g := range []string{expression, "S=;S=;S=;S=;S=;S=;S=;S=", "S=aaaa;S=bbbb;S=cccc;S=dddd;S=e"} {
		for p := 0; p <= len(g); p++ {
			checkForm(t, g[:p])
			for _, c := range "Sa=; " {
				checkForm(t, g[:p]+string(c)+g[p:])
				if p < len(g) {
					checkForm(t, g[:p]+string(c)+g[p+1:])
				}
			}
		}
	}
}
