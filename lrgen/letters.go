package lrgen

const (
	bigCount    = 26
	letterCount = 52
	signCount   = 27 // `$` and the small letters
)

// endSign stands for the end of a text.
const endSign byte = '$'

func isBig(c byte) bool { return c >= 'A' && c <= 'Z' }

func isSmall(c byte) bool { return c >= 'a' && c <= 'z' }

func isLetter(c byte) bool { return isBig(c) || isSmall(c) }

func isSign(c byte) bool { return c == endSign || isSmall(c) }

// letterAt answers the i-th letter in the order of their bytes, from 0 on.
func letterAt(i int) byte {
	if i < bigCount {
		return 'A' + byte(i)
	}
	return 'a' + byte(i-bigCount)
}

// letterIndex is the other way round of letterAt; -1 for what is no letter.
func letterIndex(c byte) int {
	if isBig(c) {
		return int(c - 'A')
	}
	if isSmall(c) {
		return bigCount + int(c-'a')
	}
	return -1
}

// signAt answers the i-th sign in the order of lists, from 0 on.
func signAt(i int) byte {
	if i == 0 {
		return endSign
	}
	return 'a' + byte(i-1)
}

// signIndex is the other way round of signAt; -1 for what is no sign.
func signIndex(c byte) int {
	if c == endSign {
		return 0
	}
	if isSmall(c) {
		return 1 + int(c-'a')
	}
	return -1
}

// bigSet is a set of big letters. Other bytes are never in it, so that callers
// may ask for any byte of a word.
type bigSet struct {
	in [bigCount]bool
}

func (s *bigSet) has(c byte) bool {
	return isBig(c) && s.in[c-'A']
}

func (s *bigSet) add(c byte) {
	if isBig(c) {
		s.in[c-'A'] = true
	}
}

// letterSet is a set of letters, held in the order of their bytes.
type letterSet struct {
	in [letterCount]bool
}

func (s *letterSet) add(c byte) {
	i := letterIndex(c)
	if i >= 0 {
		s.in[i] = true
	}
}

// signSet is a set of signs, held in the order of lists: the end sign at 0,
// then the small letters.
type signSet struct {
	in [signCount]bool
}

func (s *signSet) add(c byte) {
	i := signIndex(c)
	if i >= 0 {
		s.in[i] = true
	}
}

func (s *signSet) has(c byte) bool {
	i := signIndex(c)
	return i >= 0 && s.in[i]
}

func (s *signSet) isEmpty() bool {
	var none signSet
	return *s == none
}

func (s *signSet) addAll(more signSet) {
	for i := 0; i < signCount; i++ {
		s.in[i] = s.in[i] || more.in[i]
	}
}

func (s *signSet) list() string {
	var signs []byte
	for i := 0; i < signCount; i++ {
		if s.in[i] {
			signs = append(signs, signAt(i))
		}
	}
	return string(signs)
}

// signTable has a set of signs for each big letter.
type signTable struct {
	of [bigCount]signSet
}

func (t *signTable) get(c byte) signSet {
	var none signSet
	if !isBig(c) {
		return none
	}
	return t.of[c-'A']
}

func (t *signTable) addAll(c byte, more signSet) {
	if isBig(c) {
		t.of[c-'A'].addAll(more)
	}
}
