package solve

import (
	"iter"
	"math/bits"
)

// Kinds of sets that are no facts, but tell in one place what many rules look up; api's kinds of facts are below them.
const (
	behindSet  = 100 // A's marks, and all that stand behind them
	behindMark = 101 // the mark A, and all that stand behind it
	atAny      = 102 // what the mark A has itself at any key
	atMade     = 103 // what the mark A has at `prototype`, own or behind it
	calledBy   = 104 // what the device A calls
)

// topic is what the marks of a set tell of: a kind of facts, or one of those above, and their A.
type topic struct {
	kind int
	a    int
}

// word is some of the 64 marks that have the same high part: so many are told at once.
type word struct {
	high int
	bits uint64
}

func wordOf(mark int) word { return word{mark / 64, 1 << (mark % 64)} }

// marks goes through the marks of words.
func marks(l ...word) iter.Seq[int] {
	return func(yield func(mark int) bool) {
		for _, w := range l {
			for left := w.bits; left != 0; left &= left - 1 {
				if !yield(w.high*64 + bits.TrailingZeros64(left)) {
					return
				}
			}
		}
	}
}

// set is what a system's set has, or what facts say that have all in common but the mark.
type set struct {
	topic
	key    string
	words  []word           // in the order in which they came, no two with the same high part
	places map[int]int      // which word has a high part; there are none here as long as there are few
	told   []uint64         // the bits of each word that those below know of
	fresh  []int            // words that have others, too
	to     []int            // sets that this one is within
	asked  []func(mark int) // what else hangs on each mark
}

// few is how many words are sooner looked through than looked up.
const few = 8

// place is the word of a high part, which may have no marks yet.
func (s *set) place(high int) int {
	if s.places == nil {
		for n, w := range s.words {
			if w.high == high {
				return n
			}
		}
	}
	n, ok := s.places[high]
	if !ok {
		n = len(s.words)
		s.words, s.told = append(s.words, word{high: high}), append(s.told, 0)
		s.index()
	}
	return n
}

// index notes where words stand, if there are more than a few.
func (s *set) index() {
	if len(s.words) <= few {
		return
	}
	from := len(s.words) - 1
	if s.places == nil {
		s.places, from = map[int]int{}, 0
	}
	for n, w := range s.words[from:] {
		s.places[w.high] = from + n
	}
}

// take adds a word's marks, and tells how many of them are new.
func (s *set) take(w word) int {
	n := s.place(w.high)
	fresh := w.bits &^ s.words[n].bits
	if fresh != 0 && s.words[n].bits == s.told[n] {
		s.fresh = append(s.fresh, n)
	}
	s.words[n].bits |= fresh
	return bits.OnesCount64(fresh)
}

// tell are the marks that are not told yet, which from now on are.
func (s *set) tell() []word {
	var l []word
	for _, n := range s.fresh {
		w := s.words[n]
		l = append(l, word{w.high, w.bits &^ s.told[n]})
		s.told[n] = w.bits
	}
	s.fresh = nil
	return l
}

// known are the marks that were told.
func (s *set) known() []word {
	var l []word
	for n, told := range s.told {
		if told != 0 {
			l = append(l, word{s.words[n].high, told})
		}
	}
	return l
}
