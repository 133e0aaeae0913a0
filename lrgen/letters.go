package lrgen

const (
	bigCount  = 26
	signCount = 27 // `$` and the small letters
)

// endSign stands for the end of a text.
const endSign byte = '$'

func isBig(c byte) bool { return c >= 'A' && c <= 'Z' }

func isSmall(c byte) bool { return c >= 'a' && c <= 'z' }

func isLetter(c byte) bool { return isBig(c) || isSmall(c) }

// bigSet is a set of big letters. Other bytes are never in it, so that callers
// may ask for any byte of a word.
type bigSet struct {
	in [bigCount]bool
}

func (s *bigSet) has(c byte) bool {
	return isBig(c) && s.in[c-'A']
}

func (s *bigSet) add(c byte) {
	if isBig(c) {
		s.in[c-'A'] = true
	}
}

// signSet is a set of signs, held in the order of lists: the end sign at 0,
// then the small letters.
type signSet struct {
	in [signCount]bool
}

func (s *signSet) add(c byte) {
	if c == endSign {
		s.in[0] = true
	}
	if isSmall(c) {
		s.in[1+c-'a'] = true
	}
}

func (s *signSet) addAll(more signSet) {
	for i := 0; i < signCount; i++ {
		s.in[i] = s.in[i] || more.in[i]
	}
}

func (s *signSet) list() string {
	var signs []byte
	if s.in[0] {
		signs = append(signs, endSign)
	}
	for c := byte('a'); c <= 'z'; c++ {
		if s.in[1+c-'a'] {
			signs = append(signs, c)
		}
	}
	return string(signs)
}

// signTable has a set of signs for each big letter.
type signTable struct {
	of [bigCount]signSet
}

func (t *signTable) get(c byte) signSet {
	var none signSet
	if !isBig(c) {
		return none
	}
	return t.of[c-'A']
}

func (t *signTable) addAll(c byte, more signSet) {
	if isBig(c) {
		t.of[c-'A'].addAll(more)
	}
}
