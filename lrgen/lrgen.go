// Package lrgen: grammars, their tables, and what they read: see DOC.md.
package lrgen

// Errno is what a call answers: OK or the reason for a refusal.
type Errno int

const (
	OK       Errno = 0
	ErrLong  Errno = 1 // a string above its bound
	ErrRule  Errno = 2 // no grammar
	ErrName  Errno = 3 // a big letter without a rule
	ErrDead  Errno = 4 // a rule that is of no use
	ErrWord  Errno = 5 // no word, letter or sign
	ErrMany  Errno = 6 // too many states
	ErrState Errno = 7 // there is no such state, or core
	ErrClash Errno = 8 // one letter ahead is not enough
	ErrNone  Errno = 9 // no text of the grammar
)

// Check tells whether a text is a grammar (P3).
func Check(g string) (Errno, int) {
	read := readGrammar(g)
	return read.fault, read.place
}

// Null tells whether a word derives the empty one (P4).
func Null(g string, w string) (bool, Errno) {
	read := readWithWord(g, w)
	if read.fault != OK {
		return false, read.fault
	}
	return read.isNull(w), OK
}

// First tells with which letters the words begin that a word derives (P4).
func First(g string, w string) (string, Errno) {
	read := readWithWord(g, w)
	if read.fault != OK {
		return "", read.fault
	}
	begins := read.firstOf(w)
	return begins.list(), OK
}

// Follow tells what can follow a big letter (P5).
func Follow(g string, w string) (string, Errno) {
	read := readWithWord(g, w)
	if read.fault != OK {
		return "", read.fault
	}
	if len(w) != 1 || !isBig(w[0]) {
		return "", ErrWord
	}
	table := read.followTable()
	behind := table.get(w[0])
	return behind.list(), OK
}

// States tells how many states there are (P6).
func States(g string) (int, Errno) {
	t := readTable(g)
	if t.fault != OK {
		return 0, t.fault
	}
	return len(t.states), OK
}

// Step tells to which state a letter leads (P6).
func Step(g string, s int, x string) (int, Errno) {
	t := readTable(g)
	if t.fault != OK {
		return 0, t.fault
	}
	if !t.hasState(s) {
		return 0, ErrState
	}
	if len(x) != 1 || !isLetter(x[0]) {
		return 0, ErrWord
	}
	return t.step(s, x[0]), OK
}

// Acts tells what can be done in a state where a sign comes (P6).
func Acts(g string, s int, x string) (string, Errno) {
	t := readTable(g)
	if t.fault != OK {
		return "", t.fault
	}
	if !t.hasState(s) {
		return "", ErrState
	}
	if len(x) != 1 || !isSign(x[0]) {
		return "", ErrWord
	}
	found := t.acts(s, x[0])
	return found.list(), OK
}

// Core tells of which core a state is (P7).
func Core(g string, s int) (int, Errno) {
	t := readTable(g)
	if t.fault != OK {
		return 0, t.fault
	}
	if !t.hasState(s) {
		return 0, ErrState
	}
	return t.states[s].core, OK
}

// Mix tells what can be done in the states of a core where a sign comes (P7).
func Mix(g string, c int, x string) (string, Errno) {
	t := readTable(g)
	if t.fault != OK {
		return "", t.fault
	}
	if !t.hasCore(c) {
		return "", ErrState
	}
	if len(x) != 1 || !isSign(x[0]) {
		return "", ErrWord
	}
	found := t.mix(c, x[0])
	return found.list(), OK
}

// Class tells whether one letter ahead is enough, and whether it is in merged tables (P8).
func Class(g string) (int, Errno) {
	t := readTable(g)
	if t.fault != OK {
		return 0, t.fault
	}
	return t.class(), OK
}

// Tree tells how a text is made (P9).
func Tree(g string, t string) (string, Errno) {
	found := readForText(g, t)
	if found.fault != OK {
		return "", found.fault
	}
	var r reading
	r.start(&found)
	good := r.takeAll(t)
	if good < len(t) {
		return "", ErrNone
	}
	ended := r.settle(endSign)
	if !ended {
		return "", ErrNone
	}
	start := r.last()
	return start.written, OK
}

// Stop tells how far a text is good, and what can come there (P10).
func Stop(g string, t string) (int, string, Errno) {
	found := readForText(g, t)
	if found.fault != OK {
		return 0, "", found.fault
	}
	var r reading
	r.start(&found)
	good := r.takeAll(t)
	signs := r.signsAhead()
	return good, signs.list(), OK
}
