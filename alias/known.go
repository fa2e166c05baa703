package alias

import (
	"iter"
	"slices"

	"gumshoe/api"
	"gumshoe/bits"
)

// telling is what facts tell of a mark, or of a set.
type telling func(of int) []int

// told is what the facts that are wanted tell.
func told(l []api.Fact, wanted func(f api.Fact) bool) telling {
	marks := map[int][]int{}
	for _, f := range l {
		if wanted(f) {
			marks[f.A] = append(marks[f.A], f.B)
		}
	}
	return func(of int) []int { return marks[of] }
}

func kind(k int) func(f api.Fact) bool {
	return func(f api.Fact) bool { return f.Kind == k }
}

// known is what facts say of marks, at whichever keys. What they say at one key is gathered when it is asked for: they may have far more keys than a path.
type known struct {
	facts []api.Fact
	every telling // what marks have at some key, and so may have at each
	proto telling // what stands behind them
}

func newKnown(l []api.Fact) *known {
	return &known{l, told(l, kind(api.FAny)), told(l, kind(api.FProto))}
}

// path is what a set's marks have at keys, one behind the other: these marks themselves, if there are no keys.
func (k *known) path(set int, keys []string) []int {
	in := told(k.facts, func(f api.Fact) bool { return f.Kind == api.FIn && f.A == set })
	marks := united(in(set))
keys:
	for key := range slices.Values(keys) {
		if len(marks) == 0 {
			break keys // nothing has nothing, at any key
		}
		marks = k.load(key, marks...)
	}
	return marks
}

// load is what marks have at a key.
func (k *known) load(key string, marks ...int) []int {
	at := told(k.facts, func(f api.Fact) bool { return f.Kind == api.FProp && f.S == key })
	var all [][]int
	for mark := range k.behind(marks...) {
		all = append(all, at(mark), k.every(mark))
	}
	return united(all...)
}

// behind goes through marks and all that stand behind them, one behind the other, each once: the queue has none twice, and takes none that was met.
func (k *known) behind(marks ...int) iter.Seq[int] {
	return func(yield func(mark int) bool) {
		met := map[int]struct{}{}
		q := bits.New()
		for _, mark := range marks {
			q.Push(mark)
		}
		for q.Len() > 0 {
			mark, _ := q.Pop()
			if !yield(mark) {
				return
			}
			met[mark] = struct{}{}
			for _, next := range k.proto(mark) {
				if _, ok := met[next]; !ok {
					q.Push(next)
				}
			}
		}
	}
}

// united is all marks of lists, rising, each once.
func united(l ...[]int) []int {
	marks := slices.Concat(l...)
	slices.Sort(marks)
	return slices.Compact(marks)
}
