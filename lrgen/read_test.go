package lrgen_test

import (
	"math/rand"
	"strings"
	"testing"

	"lrgen/lrgen"
)

const (
	pairs  = "S=aSb;S="
	nested = "S=lSrS;S="
	parts  = "S=AB;A=a;A=;B=b;B="
	lalr   = "S=CC;C=cC;C=d"                    // states differ in their signs; merged they still do
	vanish = "S=AAAA;A=BBB;B=CCC;C=DDD;D=EE;E=" // the greatest tree of an empty text
	swept  = "S=SAAa;S=;A=BBBB;B=CCCC;C=DD;D="  // letters that vanish before each small one
)

func TestTreeP9(t *testing.T) {
	for _, c := range []struct{ g, text, tree string }{
		{"S=", "", "1()"},
		{"S=a", "a", "1(a)"},
		{"S=abcd", "abcd", "1(abcd)"},
		{"Q=zz", "zz", "1(zz)"},
		{"S=A;A=B;B=", "", "1(2(3()))"},
		{pairs, "", "2()"},
		{pairs, "ab", "1(a2()b)"},
		{pairs, "aabb", "1(a1(a2()b)b)"},
		{pairs, "aaaaaabbbbbb", "1(a1(a1(a1(a1(a1(a2()b)b)b)b)b)b)"},
		{"S=;S=aSb", "ab", "2(a1()b)"},
		{chain, "", "2()"},
		{chain, "aa", "1(3(a)1(3(a)2()))"},
		{"S=Sa;S=", "aa", "1(1(2()a)a)"},
		{nested, "lrllrr", "1(l2()r1(l1(l2()r2())r2()))"},
		{parts, "", "1(3()5())"},
		{parts, "a", "1(2(a)5())"},
		{parts, "b", "1(3()4(b))"},
		{parts, "ab", "1(2(a)4(b))"},
		{twoEnds, "acx", "1(a3(c)x)"},
		{twoEnds, "bc", "2(b3(c))"},
		{oneEnd, "a", "1(a4())"},
		{lalr, "cdd", "1(2(c3(d))3(d))"},
		{expression, "i", "2(4(6(i)))"},
		{expression, "ipimi", "1(2(4(6(i)))p3(4(6(i))m6(i)))"},
		{expression, "lirmi", "2(3(4(5(l2(4(6(i)))r))m6(i)))"},
		{crossed, "xwy", "1(x5(w)y)"},
		{crossed, "xwz", "2(x6(w)z)"},
		{crossed, "wz", "3(5(w)z)"},
		{crossed, "wy", "4(6(w)y)"},
		{forty, "eeaaece", "2(e3(eaae)ce)"},
		{"S=a;S=b;S=c;S=d;S=e;S=f;S=g;S=h", "h", "8(h)"},
		{"S=H;H=G;G=F;F=E;E=D;D=C;C=B;B=b", "b", "1(2(3(4(5(6(7(8(b))))))))"},
	} {
		wantTree(t, c.g, c.text, c.tree, lrgen.OK)
	}
}

func TestNoTextP9(t *testing.T) {
	for _, c := range []struct{ g, text string }{
		{"S=", "a"},
		{"S=a", ""},
		{"S=a", "b"},
		{"S=a", "aa"},
		{"S=a", "aaaaaaaaaaaa"},
		{"S=abcd", "abc"},
		{"S=abcd", "abce"},
		{"S=abcd", "abcda"},
		{pairs, "a"},
		{pairs, "b"},
		{pairs, "ba"},
		{pairs, "abb"},
		{pairs, "aaaaaaabbbbb"},
		{pairs, "aaaaabbbbbbb"},
		{parts, "ba"},
		{parts, "aa"},
		{expression, ""},
		{expression, "ip"},
		{expression, "lipi"},
		{expression, "lirr"},
		{lalr, "d"},
		{lalr, "ddd"},
		{crossed, "w"},
		{crossed, "xww"},
		{forty, "eaaeeaaeeaae"},
		{vanish, "a"},
	} {
		wantTree(t, c.g, c.text, "", lrgen.ErrNone)
	}
}

func TestStopP10(t *testing.T) {
	for _, c := range []struct {
		g, text string
		at      int
		signs   string
	}{
		{"S=", "", 0, "$"},
		{"S=", "a", 0, "$"},
		{"S=a", "", 0, "a"},
		{"S=a", "a", 1, "$"},
		{"S=a", "aa", 1, "$"},
		{"S=a", "aaaaaaaaaaaa", 1, "$"},
		{"S=z;S=a", "b", 0, "az"},
		{"S=abcd", "abcd", 4, "$"},
		{"S=abcd", "abc", 3, "d"},
		{"S=abcd", "abdd", 2, "c"},
		{"S=abcd", "babcd", 0, "a"},
		{pairs, "", 0, "$a"},
		{pairs, "b", 0, "$a"},
		{pairs, "a", 1, "ab"},
		{pairs, "aaba", 3, "b"},
		{pairs, "aabb", 4, "$"},
		{pairs, "aabbb", 4, "$"},
		{pairs, "aaaaaabbbbbb", 12, "$"},
		{pairs, "aaaaaaaaaaaa", 12, "ab"},
		{pairs, "aaaaaaabbbbb", 12, "b"},
		{pairs, "aaaaabbbbbba", 10, "$"},
		{parts, "", 0, "$ab"},
		{parts, "a", 1, "$b"},
		{parts, "b", 1, "$"},
		{parts, "aa", 1, "$b"},
		{nested, "lr", 2, "$l"},
		{nested, "ll", 2, "lr"},
		{nested, "lrr", 2, "$l"},
		{chain, "aab", 2, "$a"},
		{twoEnds, "ac", 2, "x"},
		{twoEnds, "bc", 2, "$"},
		{twoEnds, "bcx", 2, "$"},
		{oneEnd, "b", 1, "$c"},
		{lalr, "d", 1, "cd"},
		{lalr, "dcc", 3, "cd"},
		{lalr, "ddc", 2, "$"},
		{expression, "", 0, "il"},
		{expression, "i", 1, "$mp"},
		{expression, "li", 2, "mpr"},
		{expression, "lirr", 3, "$mp"},
		{expression, "ipmi", 2, "il"},
		{crossed, "", 0, "wx"},
		{crossed, "w", 1, "yz"},
		{crossed, "xw", 2, "yz"},
		{crossed, "xwx", 2, "yz"},
		{crossed, "xwzz", 3, "$"},
		{"S=a;S=b;S=c;S=d;S=e;S=f;S=g;S=h", "i", 0, "abcdefgh"},
		{forty, "eaaeeaaeeaae", 12, "ae"},
		{vanish, "a", 0, "$"},
		{swept, "aaab", 3, "$a"},
	} {
		wantStop(t, c.g, c.text, c.at, c.signs, lrgen.OK)
	}
}

// vanishing writes what is written of the big letter of a rule that vanishes,
// where each letter has the one rule that stands behind.
func vanishing(counts []int, rule int) string {
	digit := string(rune('0' + rule))
	if len(counts) == 0 {
		return digit + "()"
	}
	return digit + "(" + strings.Repeat(vanishing(counts[1:], rule+1), counts[0]) + ")"
}

func TestGreatTreesP9(t *testing.T) {
	wantTree(t, vanish, "", vanishing([]int{4, 3, 3, 3, 2}, 1), lrgen.OK)
	wantTree(t, "S=AAAA;A=BBBB;B=CCCC;C=DDDD;D=", "", vanishing([]int{4, 4, 4, 4}, 1), lrgen.OK)
	tree := "2()"
	empty := vanishing([]int{4, 4, 2}, 3)
	for n := 1; n <= 12; n++ {
		tree = "1(" + tree + empty + empty + "a)"
		wantTree(t, swept, strings.Repeat("a", n), tree, lrgen.OK)
	}
	wantUnread(t, swept, strings.Repeat("a", 13), lrgen.ErrLong)
}

func TestLongTextsP9P10(t *testing.T) {
	long := strings.Repeat("a", 13)
	for _, g := range []string{"S=a", "S=aS;S=", "S=SS;S=a", fortyOne, "", "S=Q", "S=S", strings.Repeat("S", 33)} {
		wantUnread(t, g, long, lrgen.ErrLong)
		wantUnread(t, g, "aaaaaaaaaaaaS", lrgen.ErrLong)
		wantUnread(t, g, "ééééééé", lrgen.ErrLong)
	}
	wantTree(t, "S=aS;S=", long[1:], strings.Repeat("1(a", 12)+"2()"+strings.Repeat(")", 12), lrgen.OK)
	wantStop(t, "S=aS;S=", long[1:], 12, "$a", lrgen.OK)
	wantUnread(t, "S=aS;S=", "aaaaaaaaaaaS", lrgen.ErrWord)
}

// A clash is told ahead of a wrong byte, and of a text that is none.
func TestClashP9P10(t *testing.T) {
	for _, g := range []string{
		"S=S;S=", "S=a;S=a", "S=;S=", "S=SS;S=a", "S=aSa;S=", "S=Ab;S=ab;A=a",
		"S=aaaB;B=b;B=b", "S=iS;S=iSeS;S=a", "S=cSSd;S=SSSe;S=c;S=aac",
	} {
		for _, text := range []string{"", "a", "aa", "z", "aaaaaaaaaaaa", "S", "?", "\xff"} {
			wantUnread(t, g, text, lrgen.ErrClash)
		}
	}
}

// Of all bytes small letters alone can stand in a text, at any place of it.
func TestEachByteInTextP9P10(t *testing.T) {
	for b := 0; b < 256; b++ {
		x := string([]byte{byte(b)})
		if b >= 'a' && b <= 'z' {
			wantTree(t, "S="+x+"S;S=", x+x, "1("+x+"1("+x+"2()))", lrgen.OK)
			wantStop(t, "S="+x+"S;S=", x+x, 2, "$"+x, lrgen.OK)
			wantStop(t, "S=", x, 0, "$", lrgen.OK)
			continue
		}
		wantUnread(t, "S=aS;S=", x, lrgen.ErrWord)
		wantUnread(t, "S=aS;S=", "aa"+x+"aa", lrgen.ErrWord)
		wantUnread(t, "S=aS;S=", "bb"+x, lrgen.ErrWord)
		wantUnread(t, "S=", "aaaaaaaaaaa"+x, lrgen.ErrWord)
	}
}

// shortTexts are all words of the letters a, b and c up to three.
func shortTexts() []string {
	texts := []string{""}
	for i := 0; len(texts[i]) < 3; i++ {
		texts = append(texts, texts[i]+"a", texts[i]+"b", texts[i]+"c")
	}
	return texts
}

// smalls answers the texts among the words of a set.
func (s wordSet) smalls() []string {
	var texts []string
	for w := range s {
		if strings.ToLower(w) == w {
			texts = append(texts, w)
		}
	}
	return texts
}

// checkTextsByWords asks that a word is read just if it is among the texts.
func checkTextsByWords(t *testing.T, g string, texts wordSet) {
	for _, text := range shortTexts() {
		_, fault := lrgen.Tree(g, text)
		want := lrgen.ErrNone
		if texts[text] {
			want = lrgen.OK
		}
		if fault != want {
			t.Errorf("Tree(%q, %q): %d, want %d", g, text, fault, want)
		}
	}
}

// checkStopsByWords asks that nothing stops a text of the grammar, and that
// each of its letters, and its end, can come where it comes.
func checkStopsByWords(t *testing.T, g, text string) {
	for p := range len(text) + 1 {
		at, signs, fault := lrgen.Stop(g, text[:p])
		next := (text + "$")[p : p+1]
		if at != p || !strings.Contains(signs, next) || fault != lrgen.OK {
			t.Errorf("Stop(%q, %q) = %d, %q, %d, but %s can come at %d", g, text[:p], at, signs, fault, next, p)
		}
	}
}

// The answers are held against the texts themselves, derived one by one.
func TestAgainstDerivedWordsP9P10(t *testing.T) {
	source := rand.New(rand.NewSource(7))
	for range 300 {
		g := someGrammar(source)
		class, fault := lrgen.Class(g)
		if fault != lrgen.OK || class == 0 {
			continue
		}
		words := derived(g, g[:1])
		checkTextsByWords(t, g, words)
		for _, text := range words.smalls() {
			checkStopsByWords(t, g, text)
		}
	}
}
