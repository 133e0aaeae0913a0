package lrgen_test

import (
	"strings"
	"testing"

	"lrgen/lrgen"
)

func wantNull(t *testing.T, g, w string, want bool, fault lrgen.Errno) {
	got, e := lrgen.Null(g, w)
	if got != want || e != fault {
		t.Errorf("Null(%.40q, %.20q) = %v, %d, want %v, %d", g, w, got, e, want, fault)
	}
}

func wantFirst(t *testing.T, g, w string, want string, fault lrgen.Errno) {
	got, e := lrgen.First(g, w)
	if got != want || e != fault {
		t.Errorf("First(%.40q, %.20q) = %q, %d, want %q, %d", g, w, got, e, want, fault)
	}
}

func wantFollow(t *testing.T, g, w string, want string, fault lrgen.Errno) {
	got, e := lrgen.Follow(g, w)
	if got != want || e != fault {
		t.Errorf("Follow(%.40q, %.20q) = %q, %d, want %q, %d", g, w, got, e, want, fault)
	}
}

func TestNullAndFirstP4(t *testing.T) {
	for _, c := range []struct {
		g, w  string
		null  bool
		first string
	}{
		{"S=a", "", true, ""},
		{"S=a", "S", false, "a"},
		{"S=a", "bS", false, "b"},
		{"S=", "SSSSSSSSSSSS", true, ""},
		{"S=", "SSSSSSSSSSSq", false, "q"},
		{"S=aSb;S=", "SzS", false, "az"},
		{expression, "E", false, "il"},
		{expression, "FpE", false, "il"},
		{"S=z;S=a;S=m;S=", "Sb", false, "abmz"},
		{"S=S;S=", "S", true, ""},
		{"S=SaS;S=", "S", true, "a"},
		{"S=SSb;S=;S=cS", "S", true, "bc"},
		{"S=AB;A=;B=AA", "S", true, ""},
		{"S=H;H=G;G=F;F=E;E=D;D=C;C=B;B=b", "S", false, "b"},
		{"S=H;H=G;G=F;F=E;E=D;D=C;C=B;B=", "S", true, ""},
		{"S=H;B=b;C=B;D=C;E=D;F=E;G=F;H=G", "S", false, "b"},
		{"S=ABCD;A=;B=;C=;D=d", "S", false, "d"},
		{"S=ABCD;A=a;A=;B=b;C=c;C=;D=d", "S", false, "ab"},
		{"S=ABCD;A=a;A=;B=b;C=c;C=;D=d", "CA", true, "ac"},
		{"S=Aa;A=Sb;A=", "S", false, "a"},
		{"S=Aa;A=Sb;A=", "A", true, "a"},
		{"S=A;A=Sb;A=", "S", true, "b"},
	} {
		wantNull(t, c.g, c.w, c.null, lrgen.OK)
		wantFirst(t, c.g, c.w, c.first, lrgen.OK)
	}
}

func TestFollowP5(t *testing.T) {
	for _, c := range []struct{ g, w, follow string }{
		{"S=", "S", "$"},
		{"S=aSb;S=", "S", "$b"},
		{"S=aSb;S=c", "S", "$b"},
		{"S=SzSa;S=", "S", "$az"},
		{expression, "E", "$pr"},
		{expression, "T", "$mpr"},
		{expression, "F", "$mpr"},
		{"S=Aa;A=b", "A", "a"},
		{"S=Aa;A=b", "S", "$"},
		{"S=ABCd;A=a;B=b;B=;C=c;C=", "A", "bcd"},
		{"S=ABC;A=a;B=b;B=;C=c;C=", "A", "$bc"},
		{"S=AA;A=a", "A", "$a"},
		{"S=AA;A=a;A=", "S", "$"},
		{"S=Az;A=aB;B=bC;C=cD;D=dE;E=e", "E", "z"},
		{"S=Hz;H=G;G=F;F=E;E=D;D=C;C=B;B=b", "B", "z"},
		{"S=Hz;B=;C=B;D=C;E=D;F=E;G=F;H=G", "B", "z"},
		{"S=aSA;S=;A=b;A=SA", "A", "$ab"},
		{"S=LeR;S=R;L=sR;L=i;R=L", "L", "$e"},
	} {
		wantFollow(t, c.g, c.w, c.follow, lrgen.OK)
	}
}

func TestWrongWordsP4P5(t *testing.T) {
	for _, c := range []struct {
		g, w  string
		fault lrgen.Errno
	}{
		{"S=a", "aaaaaaaaaaaaa", lrgen.ErrLong},
		{"S=a", strings.Repeat("?", 13), lrgen.ErrLong},
		{"S=a", strings.Repeat("?", 12), lrgen.ErrWord},
		{"", strings.Repeat("a", 13), lrgen.ErrLong},
		{"S=Q", strings.Repeat("a", 13), lrgen.ErrLong},
		{"S=S", strings.Repeat("a", 13), lrgen.ErrLong},
		{strings.Repeat("S", 33), "S", lrgen.ErrLong},
		{strings.Repeat("S", 33), "?", lrgen.ErrLong},
		{strings.Repeat("S", 33), strings.Repeat("S", 33), lrgen.ErrLong},
		{"", "", lrgen.ErrRule},
		{"S=;", "?", lrgen.ErrRule},
		{"S=T", "T", lrgen.ErrName},
		{"S=T", "?", lrgen.ErrName},
		{"S=S", "S", lrgen.ErrDead},
		{"S=a;T=b", "?", lrgen.ErrDead},
		{"S=a", "T", lrgen.ErrWord},
		{"S=a", "ST", lrgen.ErrWord},
		{"S=a", "aaaaaaaaaaaT", lrgen.ErrWord},
		{"S=a", "$", lrgen.ErrWord},
		{"S=a", "S;", lrgen.ErrWord},
		{"S=a", "a\x00", lrgen.ErrWord},
		{"S=a", "\xc3\xa9", lrgen.ErrWord},
	} {
		wantNull(t, c.g, c.w, false, c.fault)
		wantFirst(t, c.g, c.w, "", c.fault)
		wantFollow(t, c.g, c.w, "", c.fault)
	}
}

// Words that Null and First take are still refused by Follow.
func TestFollowWantsOneBigLetterP5(t *testing.T) {
	for _, w := range []string{"", "a", "b", "SS", "Sa", "aS", "SSSSSSSSSSSS"} {
		wantFollow(t, "S=a", w, "", lrgen.ErrWord)
		_, fault := lrgen.First("S=a", w)
		if fault != lrgen.OK {
			t.Errorf("First(%q) refuses: %d", w, fault)
		}
	}
}

func TestEachByteAsWordP4P5(t *testing.T) {
	for b := 0; b < 256; b++ {
		w := string([]byte{byte(b)})
		switch {
		case b >= 'a' && b <= 'z':
			wantNull(t, "S=k", w, false, lrgen.OK)
			wantFirst(t, "S=k", w, w, lrgen.OK)
			wantFollow(t, "S=k", w, "", lrgen.ErrWord)
		case w == "S":
			wantNull(t, "S=k", w, false, lrgen.OK)
			wantFirst(t, "S=k", w, "k", lrgen.OK)
			wantFollow(t, "S=k", w, "$", lrgen.OK)
		default:
			wantNull(t, "S=k", w, false, lrgen.ErrWord)
			wantFirst(t, "S=k", w, "", lrgen.ErrWord)
			wantFollow(t, "S=k", w, "", lrgen.ErrWord)
		}
	}
}

// Each letter of the alphabet is the start, and each is the one that begins and
// follows, so that the ends of the ranges are met.
func TestEachLetterP4P5(t *testing.T) {
	for i := 0; i < 26; i++ {
		big := string(rune('A' + i))
		small := string(rune('a' + i))
		g := big + "=" + big + small + ";" + big + "="
		wantNull(t, g, big, true, lrgen.OK)
		wantFirst(t, g, big, small, lrgen.OK)
		wantFollow(t, g, big, "$"+small, lrgen.OK)
	}
}
