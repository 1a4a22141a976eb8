package fleet

import (
	"fmt"
	"math"
	"testing"

	"switchback/api"
)

// upTo are the numbers from 0 on that are below n.
func upTo(n int) []int {
	var l []int
	for i := range n {
		l = append(l, i)
	}
	return l
}

// without are the numbers below n but this one.
func without(n, i int) []int { return append(upTo(i), upTo(n)[i+1:]...) }

// at is a pair of which the one slot has this, and the other one has that.
func at[T any](slot int, this, that T) [2]T {
	pair := [2]T{that, that}
	pair[slot] = this
	return pair
}

// made is a fleet of so many wanted, of which these are ready.
func made(t *testing.T, want [2]int, ready [2][]int) *Fleet {
	t.Helper()
	f := New()
	f.Apply(want)
	for slot, l := range ready {
		for _, i := range l {
			tells(t, f, "at first", slot, i, true, true)
		}
	}
	return f
}

// tells complains unless Ready tells this.
func tells(t *testing.T, f *Fleet, what string, slot, i int, ready, want bool) {
	t.Helper()
	if got := f.Ready(slot, i, ready); got != want {
		t.Errorf("%s: Ready(%d, %d, %t): %t; want %t", what, slot, i, ready, got, want)
	}
}

// counts complains unless so many are wanted, and ready, and what is full is told as the chapter says, of either slot and of others.
func counts(t *testing.T, f *Fleet, what string, want, ready [2]int) {
	t.Helper()
	if v := f.View(); v != (api.View{Want: want, Ready: ready}) {
		t.Errorf("%s: %v; want %v, %v", what, v, want, ready)
	}
	for slot := range 2 {
		if full := want[slot] > 0 && ready[slot] == want[slot]; f.Full(slot) != full {
			t.Errorf("%s: %v: Full(%d): %t; want %t", what, f.View(), slot, f.Full(slot), full)
		}
	}
	for _, slot := range noSlots() {
		if f.Full(slot) {
			t.Errorf("%s: Full(%d): there is no such slot", what, slot)
		}
	}
}

// look complains unless so many are wanted, and these and no others are ready.
func look(t *testing.T, f *Fleet, what string, want [2]int, ready [2][]int) {
	t.Helper()
	counts(t, f, what, want, [2]int{len(ready[0]), len(ready[1])})
	for slot, l := range ready {
		listed := map[int]bool{}
		for _, i := range l {
			listed[i] = true
		}
		for i := range want[slot] {
			if stands(f, slot, i) != listed[i] {
				t.Errorf("%s: %d of slot %d is ready: %t; want %t", what, i, slot, !listed[i], listed[i])
			}
		}
	}
	counts(t, f, what+", looked at", want, [2]int{len(ready[0]), len(ready[1])})
}

// stands is whether a wanted one is ready, seen by whether one less is when it isn't; it is left as it was.
func stands(f *Fleet, slot, i int) bool {
	was := f.View().Ready[slot]
	f.Ready(slot, i, false)
	stood := f.View().Ready[slot] < was
	f.Ready(slot, i, stood)
	return stood
}

// noSlots are numbers that no slot has.
func noSlots() []int {
	return []int{math.MinInt, math.MinInt + 1, -1 << 32, -1<<32 + 1, math.MinInt32, -256, -3, -2, -1, 2, 3, 4, 5, 32, 255, 256, 257, math.MaxInt32, 1 << 32, 1<<32 + 1, math.MaxInt - 1, math.MaxInt}
}

// scales tells of numbers that are applied as how many they count.
func scales() map[int]int {
	m := map[int]int{
		math.MinInt: 0, math.MinInt + 1: 0, -1 << 32: 0, -1<<32 + 5: 0, math.MinInt32: 0, -256: 0, -32: 0, -2: 0, -1: 0,
		33: 32, 34: 32, 64: 32, 255: 32, 256: 32, 257: 32, math.MaxInt32: 32, 1 << 32: 32, 1<<32 + 3: 32, math.MaxInt - 1: 32, math.MaxInt: 32,
	}
	for n := range 33 {
		m[n] = n
	}
	return m
}

// ends are numbers at the ends of Apply's range, between them, and beyond.
func ends() []int {
	return []int{math.MinInt, -1, 0, 1, 2, 3, 17, 31, 32, 33, math.MaxInt}
}

// strangers are numbers that no replica of so many has.
func strangers(want int) []int {
	l := []int{math.MinInt, math.MinInt + 1, -1 << 32, -1<<32 + 1, math.MinInt32, -64, -33, -32, -2, -1, 33, 63, 64, 255, 256, math.MaxInt32, 1 << 32, 1<<32 + 1, math.MaxInt - 1, math.MaxInt}
	for i := want; i <= 32; i++ {
		l = append(l, i)
	}
	return l
}

// some are lists of numbers below n: none, all, those at even places, the last one alone, all but the first.
func some(n int) [][]int {
	lists := [][]int{nil}
	if n == 0 {
		return lists
	}
	var even []int
	for i := 0; i < n; i += 2 {
		even = append(even, i)
	}
	return append(lists, upTo(n), even, []int{n - 1}, without(n, 0))
}

// below are those of a list that are below n.
func below(list []int, n int) []int {
	var l []int
	for _, i := range list {
		if i < n {
			l = append(l, i)
		}
	}
	return l
}

// The document's example.
func TestExample(t *testing.T) {
	f := New()
	f.Apply([2]int{2, 0})
	tells(t, f, "of 2, 0", 0, 1, true, true)
	if v := f.View(); v != (api.View{Want: [2]int{2, 0}, Ready: [2]int{1, 0}}) {
		t.Error(v)
	}
	look(t, f, "of 2, 0", [2]int{2, 0}, [2][]int{{1}, nil})
}

// P14.1: of a new one none are wanted, none are ready, neither slot is full, and nothing but Apply makes one wanted.
func TestNew(t *testing.T) {
	f := New()
	look(t, f, "new", [2]int{}, [2][]int{})
	f.Fill()
	look(t, f, "new, filled", [2]int{}, [2][]int{})
	for slot := range 2 {
		for _, i := range strangers(0) {
			for _, ready := range []bool{true, false} {
				tells(t, f, "new", slot, i, ready, false)
			}
		}
	}
	look(t, f, "new, told of what isn't there", [2]int{}, [2][]int{})
	f.Apply([2]int{32, 32})
	look(t, f, "new, then 32, 32", [2]int{32, 32}, [2][]int{})
}

// P14.1: each slot has as many wanted as Apply says of it, or the nearer end of the range, and none of them is ready at first.
func TestApply(t *testing.T) {
	means := scales()
	for first, one := range means {
		for _, second := range ends() {
			for slot := range 2 {
				f, want := New(), at(slot, one, means[second])
				f.Apply(at(slot, first, second))
				look(t, f, fmt.Sprintf("Apply(%v)", at(slot, first, second)), want, [2][]int{})
				f.Fill()
				look(t, f, fmt.Sprintf("Apply(%v), filled", at(slot, first, second)), want, [2][]int{upTo(want[0]), upTo(want[1])})
			}
		}
	}
}

// P14.1, P14.2: from any number of the one slot to any other, those that stay wanted stand as they were, and none that comes is ready; the other slot stands.
func TestApplyOn(t *testing.T) {
	for was := range 33 {
		for _, ready := range some(was) {
			for n, want := range scales() {
				for slot := range 2 {
					f := made(t, at(slot, was, 3), at(slot, ready, []int{0, 2}))
					f.Apply(at(slot, n, 3))
					what := fmt.Sprintf("slot %d: %d with %v, then %d", slot, was, ready, n)
					look(t, f, what, at(slot, want, 3), at(slot, below(ready, want), []int{0, 2}))
				}
			}
		}
	}
}

// P14.1: both slots go to other numbers at once, each to its own: to more, to fewer, to as many.
func TestApplyBoth(t *testing.T) {
	means := scales()
	for _, was := range [][2]int{{0, 0}, {0, 5}, {1, 1}, {4, 4}, {3, 7}, {31, 2}, {32, 32}} {
		for _, first := range ends() {
			for _, second := range ends() {
				f := made(t, was, [2][]int{upTo(was[0]), upTo(was[1])})
				f.Apply([2]int{first, second})
				want := [2]int{means[first], means[second]}
				what := fmt.Sprintf("all of %v ready, then %d, %d", was, first, second)
				look(t, f, what, want, [2][]int{upTo(min(was[0], want[0])), upTo(min(was[1], want[1]))})
			}
		}
	}
}

// P14.2: the same numbers, applied again and again, change nothing, be they in their range or not.
func TestApplyAgain(t *testing.T) {
	means := scales()
	for _, first := range ends() {
		for _, second := range ends() {
			want := [2]int{means[first], means[second]}
			for _, one := range some(want[0]) {
				for _, two := range some(want[1]) {
					f := New()
					f.Apply([2]int{first, second})
					for slot, l := range [2][]int{one, two} {
						for _, i := range l {
							tells(t, f, "at first", slot, i, true, true)
						}
					}
					for range 3 {
						f.Apply([2]int{first, second})
						look(t, f, fmt.Sprintf("Apply(%d, %d) again", first, second), want, [2][]int{one, two})
					}
				}
			}
		}
	}
}

// P14.1: one that was gone isn't ready when it comes again, however few were left, and however many come, by either slot.
func TestGone(t *testing.T) {
	for _, was := range []int{1, 2, 3, 16, 31, 32} {
		for few, left := range scales() {
			for _, many := range []int{left, left + 1, was, was + 1, 32, math.MaxInt} {
				for slot := range 2 {
					f := made(t, at(slot, was, was), at(slot, upTo(was), upTo(was)))
					f.Apply(at(slot, few, was))
					f.Apply(at(slot, many, was))
					what := fmt.Sprintf("slot %d: %d ready, then %d, then %d", slot, was, few, many)
					look(t, f, what, at(slot, min(many, 32), was), at(slot, upTo(min(was, left, many)), upTo(was)))
				}
			}
		}
	}
}

// P14.1: what came again by both slots is ready once it is told so, or filled.
func TestComesAgain(t *testing.T) {
	for left := range 32 {
		f := made(t, [2]int{32, 32}, [2][]int{upTo(32), upTo(32)})
		f.Apply([2]int{left, left})
		f.Apply([2]int{32, 32})
		for i := left; i < 32; i++ {
			counts(t, f, fmt.Sprintf("%d left", left), [2]int{32, 32}, [2]int{i, i})
			for slot := range 2 {
				tells(t, f, "again", slot, i, true, true)
			}
		}
		look(t, f, "all again", [2]int{32, 32}, [2][]int{upTo(32), upTo(32)})
		f.Apply([2]int{left, 32})
		f.Apply([2]int{32, 32})
		look(t, f, "again, by slot 0 alone", [2]int{32, 32}, [2][]int{upTo(left), upTo(32)})
		f.Fill()
		look(t, f, "filled", [2]int{32, 32}, [2][]int{upTo(32), upTo(32)})
	}
}

// P14.1, P14.2: each wanted one is ready, or isn't, as it is told, once and again; no other one is touched, by either slot.
func TestReady(t *testing.T) {
	for want := range 33 {
		for i := range want {
			for slot := range 2 {
				for _, rest := range [][]int{nil, {1, 3}, upTo(5)} {
					readyOne(t, fmt.Sprintf("%d of %d of slot %d", i, want, slot), slot, i, want, rest)
				}
			}
		}
	}
}

// readyOne has one of so many of a slot be ready, and not, beside a slot of 5 of which the rest is ready.
func readyOne(t *testing.T, what string, slot, i, want int, rest []int) {
	t.Helper()
	wanted := at(slot, want, 5)
	f := made(t, wanted, at(slot, nil, rest))
	for range 2 {
		tells(t, f, what, slot, i, false, true)
		look(t, f, what+" isn't", wanted, at(slot, nil, rest))
	}
	for range 2 {
		tells(t, f, what, slot, i, true, true)
		look(t, f, what+" alone", wanted, at(slot, []int{i}, rest))
	}
	tells(t, f, what, slot, i, false, true)
	look(t, f, what+" isn't again", wanted, at(slot, nil, rest))

	f = made(t, wanted, at(slot, upTo(want), rest))
	tells(t, f, what, slot, i, true, true)
	look(t, f, what+", and all", wanted, at(slot, upTo(want), rest))
	for range 2 {
		tells(t, f, what, slot, i, false, true)
		look(t, f, what+" isn't alone", wanted, at(slot, without(want, i), rest))
	}
	tells(t, f, what, slot, i, true, true)
	look(t, f, what+" again", wanted, at(slot, upTo(want), rest))
}

// P14.1: what isn't a wanted one's number of its slot is told so, and changes nothing, now or when its number is wanted.
func TestStrangers(t *testing.T) {
	for want := range 33 {
		for _, ready := range some(want) {
			for slot := range 2 {
				for _, other := range []int{0, 5, 32} {
					rest := upTo(other / 2)
					f := made(t, at(slot, want, other), at(slot, ready, rest))
					what := fmt.Sprintf("slot %d: %d with %v, beside %d", slot, want, ready, other)
					for _, i := range strangers(want) {
						for _, to := range []bool{true, true, false, false, true} {
							tells(t, f, what, slot, i, to, false)
						}
						counts(t, f, what, at(slot, want, other), at(slot, len(ready), len(rest)))
					}
					look(t, f, what, at(slot, want, other), at(slot, ready, rest))
					f.Apply([2]int{32, 32})
					look(t, f, what+", then 32", [2]int{32, 32}, at(slot, ready, rest))
				}
			}
		}
	}
}

// P14.1: there are no slots but 0 and 1: what is told of others is false, and changes nothing, whatever the number.
func TestNoSlots(t *testing.T) {
	for _, want := range [][2]int{{0, 0}, {1, 0}, {0, 1}, {3, 2}, {32, 32}} {
		for _, ready := range [][2][]int{{}, {below([]int{0, 2}, want[0]), below([]int{1}, want[1])}, {upTo(want[0]), upTo(want[1])}} {
			f := made(t, want, ready)
			for _, slot := range noSlots() {
				what := fmt.Sprintf("slot %d beside %v of %v", slot, ready, want)
				for _, i := range append(upTo(33), math.MinInt, -1, 64, 256, math.MaxInt) {
					for _, to := range []bool{true, false, true} {
						tells(t, f, what, slot, i, to, false)
					}
				}
				look(t, f, what, want, ready)
			}
			f.Apply([2]int{32, 32})
			look(t, f, "then 32, 32", [2]int{32, 32}, ready)
		}
	}
}

// P14.1: full is what has one at least, and all ready: not with any of them that isn't, whichever it is, and whatever the other slot has.
func TestFull(t *testing.T) {
	for slot := range 2 {
		for _, rest := range [][]int{nil, {1}, upTo(2)} {
			for want := 1; want <= 32; want++ {
				f := made(t, at(slot, want, 2), at(slot, nil, rest))
				what := fmt.Sprintf("slot %d of %d beside %v of 2", slot, want, rest)
				for i := range want {
					counts(t, f, what, at(slot, want, 2), at(slot, i, len(rest)))
					tells(t, f, what, slot, want-1-i, true, true)
				}
				counts(t, f, what+", all", at(slot, want, 2), at(slot, want, len(rest)))
				for i := range want {
					tells(t, f, what, slot, i, false, true)
					counts(t, f, what+", all but one", at(slot, want, 2), at(slot, want-1, len(rest)))
					tells(t, f, what, slot, i, true, true)
				}
				f.Apply(at(slot, 0, 2))
				counts(t, f, what+", none", at(slot, 0, 2), at(slot, 0, len(rest)))
			}
		}
	}
}

// P14.1: the four there may be: neither is full, the one, the other, both.
func TestFullOne(t *testing.T) {
	f := New()
	for _, c := range []struct {
		want [2]int
		fill bool
		full [2]bool
	}{
		{[2]int{0, 0}, true, [2]bool{false, false}},
		{[2]int{1, 0}, false, [2]bool{false, false}},
		{[2]int{1, 0}, true, [2]bool{true, false}},
		{[2]int{1, 1}, false, [2]bool{true, false}},
		{[2]int{0, 1}, true, [2]bool{false, true}},
		{[2]int{1, 1}, false, [2]bool{false, true}},
		{[2]int{1, 1}, true, [2]bool{true, true}},
		{[2]int{33, 1}, false, [2]bool{false, true}},
		{[2]int{33, -1}, true, [2]bool{true, false}},
		{[2]int{-1, -1}, true, [2]bool{false, false}},
	} {
		f.Apply(c.want)
		if c.fill {
			f.Fill()
		}
		if got := [2]bool{f.Full(0), f.Full(1)}; got != c.full {
			t.Errorf("%v, filled %t: %v; want %v", c.want, c.fill, got, c.full)
		}
	}
}

// P14.1: behind Fill all that are wanted of both are ready, whatever was, and none of those that aren't.
func TestFill(t *testing.T) {
	numbers := []int{0, 1, 2, 3, 5, 16, 31, 32}
	for _, first := range numbers {
		for _, second := range numbers {
			for _, one := range some(first) {
				for _, two := range some(second) {
					want := [2]int{first, second}
					f := made(t, want, [2][]int{one, two})
					what := fmt.Sprintf("%v with %v, %v, filled", want, one, two)
					for range 2 {
						f.Fill()
						look(t, f, what, want, [2][]int{upTo(first), upTo(second)})
					}
					f.Apply([2]int{32, 32})
					look(t, f, what+", then 32, 32", [2]int{32, 32}, [2][]int{upTo(first), upTo(second)})
				}
			}
		}
	}
}

// P14.1: what is filled can be unready again, one by one; filled again, it is ready.
func TestFillAgain(t *testing.T) {
	for slot := range 2 {
		for i := range 7 {
			f, want := New(), at(slot, 7, 4)
			f.Apply(want)
			f.Fill()
			tells(t, f, "filled", slot, i, false, true)
			look(t, f, "but one", want, at(slot, without(7, i), upTo(4)))
			f.Fill()
			look(t, f, "filled again", want, at(slot, upTo(7), upTo(4)))
		}
	}
}

// call is a call that changes a fleet: Fill, if it is of no other kind.
type call struct {
	apply, tell bool
	want        [2]int
	slot, i     int
	ready       bool
}

// do does it, and tells what comes of it.
func (c call) do(f *Fleet) bool {
	switch {
	case c.apply:
		f.Apply(c.want)
	case c.tell:
		return f.Ready(c.slot, c.i, c.ready)
	default:
		f.Fill()
	}
	return true
}

// words is a fleet by the chapter's words: by slots, of each wanted one's number whether it is ready.
type words map[int]map[int]bool

// newWords: none are wanted.
func newWords() words { return words{0: {}, 1: {}} }

// do is what comes of a call.
func (w words) do(c call) bool {
	switch {
	case c.apply:
		w.scale(0, c.want[0])
		w.scale(1, c.want[1])
	case c.tell:
		if _, wanted := w[c.slot][c.i]; !wanted {
			return false
		}
		w[c.slot][c.i] = c.ready
	default:
		for _, set := range w {
			for i := range set {
				set[i] = true
			}
		}
	}
	return true
}

// scale takes away those of a slot that aren't wanted any more, and adds those that weren't.
func (w words) scale(slot, n int) {
	for i := range w[slot] {
		if i >= n {
			delete(w[slot], i)
		}
	}
	for i := range min(n, 32) {
		if _, was := w[slot][i]; !was {
			w[slot][i] = false
		}
	}
}

// want is how many are wanted, by slots.
func (w words) want() [2]int { return [2]int{len(w[0]), len(w[1])} }

// ready are the numbers of those that are, by slots.
func (w words) ready() [2][]int {
	var l [2][]int
	for slot := range l {
		for i := range 32 {
			if w[slot][i] {
				l[slot] = append(l[slot], i)
			}
		}
	}
	return l
}

// told is what View and Full tell, of slots -1 to 2.
type told struct {
	view api.View
	full [4]bool
}

// tell is what a fleet tells.
func tell(f *Fleet) told {
	return told{f.View(), [4]bool{f.Full(-1), f.Full(0), f.Full(1), f.Full(2)}}
}

// tell is what the words do.
func (w words) tell() told {
	l := told{view: api.View{Want: w.want()}}
	for slot, set := range w {
		for _, ready := range set {
			if ready {
				l.view.Ready[slot]++
			}
		}
		l.full[slot+1] = len(set) > 0 && l.view.Ready[slot] == len(set)
	}
	return l
}

// few are calls of each kind that tell on each other.
func few() []call {
	l := []call{{}}
	for _, want := range [][2]int{{0, 0}, {1, 2}, {2, 0}, {0, 1}, {2, 2}} {
		l = append(l, call{apply: true, want: want})
	}
	for slot := range 2 {
		for i := range 2 {
			l = append(l, call{tell: true, slot: slot, i: i, ready: true}, call{tell: true, slot: slot, i: i})
		}
	}
	return append(l, call{tell: true, slot: 2, ready: true}, call{tell: true, slot: -1})
}

// P14.1, P14.2: all orders of up to five calls on few replicas, held against the words.
func TestAllOrders(t *testing.T) {
	calls := few()
	var from func(done []call)
	from = func(done []call) {
		f, w := New(), newWords()
		for _, c := range done {
			if got, want := c.do(f), w.do(c); got != want {
				t.Fatalf("%+v: %t; want %t", done, got, want)
			}
		}
		if got, want := tell(f), w.tell(); got != want {
			t.Fatalf("%+v: %+v; want %+v", done, got, want)
		}
		if len(done) < 5 {
			for _, c := range calls {
				from(append(done[:len(done):len(done)], c))
			}
		}
	}
	from(nil)
}

// random is one call, most often of few numbers that tell on each other.
func random(noise *source, want [2]int) call {
	far := []int{math.MinInt, -1 << 32, -1, 32, 33, 64, 1 << 32, math.MaxInt}
	switch kind := noise.below(24); {
	case kind == 0:
		return call{}
	case kind == 1:
		return call{tell: true, slot: noSlots()[noise.below(len(noSlots()))], i: noise.below(4), ready: noise.below(2) > 0}
	case kind == 2:
		return call{tell: true, slot: noise.below(2), i: far[noise.below(8)], ready: noise.below(2) > 0}
	case kind == 3:
		return call{apply: true, want: [2]int{far[noise.below(8)], noise.below(33)}}
	case kind == 4:
		return call{apply: true, want: [2]int{noise.below(33), far[noise.below(8)]}}
	case kind < 9:
		return call{apply: true, want: [2]int{want[0] + noise.below(5) - 2, want[1] + noise.below(5) - 2}}
	}
	slot := noise.below(2)
	return call{tell: true, slot: slot, i: noise.below(want[slot]+3) - 1, ready: noise.below(4) > 0}
}

// P14.1, P14.2: many orders of calls, of several fleets that know nothing of each other, held against the words.
func TestManyOrders(t *testing.T) {
	noise := source(14)
	for round := range 500 {
		fleets := []*Fleet{New(), New(), New()}
		all := []words{newWords(), newWords(), newWords()}
		for number := range 200 {
			one := noise.below(len(fleets))
			f, w := fleets[one], all[one]
			c := random(&noise, w.want())
			if got, want := c.do(f), w.do(c); got != want {
				t.Fatalf("round %d, call %d: %+v: %t; want %t", round, number, c, got, want)
			}
			for i := range fleets {
				if got, want := tell(fleets[i]), all[i].tell(); got != want {
					t.Fatalf("round %d, call %d: %+v of %d: %d: %+v; want %+v", round, number, c, one, i, got, want)
				}
			}
		}
		for i, f := range fleets {
			what := fmt.Sprintf("round %d", round)
			look(t, f, what, all[i].want(), all[i].ready())
			shrink(t, f, what, all[i])
		}
	}
}

// shrink complains unless, scaled down one by one, the slots lose those that the words say are ready.
func shrink(t *testing.T, f *Fleet, what string, w words) {
	t.Helper()
	for slot := range 2 {
		for n := len(w[slot]) - 1; n >= 0; n-- {
			c := call{apply: true, want: at(slot, n, len(w[1-slot]))}
			c.do(f)
			w.do(c)
			if got, want := tell(f), w.tell(); got != want {
				t.Fatalf("%s, shrunk: slot %d to %d: %+v; want %+v", what, slot, n, got, want)
			}
		}
	}
}

// P14.2: calls that are for the one slot leave the other one as it was, whichever they are.
func TestApart(t *testing.T) {
	noise := source(2)
	for slot := range 2 {
		for _, other := range []int{0, 1, 4, 32} {
			for _, rest := range some(other) {
				f, w := made(t, at(slot, 0, other), at(slot, nil, rest)), newWords()
				for number := range 200 {
					c := random(&noise, at(slot, len(w[slot]), other))
					c.tell, c.slot = !c.apply, slot
					c.want[1-slot] = other
					if got, want := c.do(f), w.do(c); got != want {
						t.Fatalf("slot %d, %+v: %t; want %t", slot, c, got, want)
					}
					what := fmt.Sprintf("slot %d, beside %v of %d, call %d", slot, rest, other, number)
					look(t, f, what, at(slot, len(w[slot]), other), at(slot, w.ready()[slot], rest))
				}
			}
		}
	}
}

// Looking changes nothing, however often; what View told before stays as it was.
func TestLooking(t *testing.T) {
	f := made(t, [2]int{5, 3}, [2][]int{{0, 4}, upTo(3)})
	first := f.View()
	for range 5 {
		counts(t, f, "looked at", [2]int{5, 3}, [2]int{2, 3})
	}
	second := f.View()
	second.Want[0], second.Ready[1] = 9, 9
	counts(t, f, "behind a change of what was told", [2]int{5, 3}, [2]int{2, 3})
	f.Apply([2]int{1, 1})
	if first != (api.View{Want: [2]int{5, 3}, Ready: [2]int{2, 3}}) {
		t.Error(first)
	}
}

// Rule 6: two that are told the same tell the same, whatever a third is told between.
func TestAgain(t *testing.T) {
	one, two, third := New(), New(), New()
	noise := source(6)
	for number := range 20000 {
		c, other := random(&noise, one.View().Want), random(&noise, third.View().Want)
		first := c.do(one)
		other.do(third)
		if again := c.do(two); first != again || tell(one) != tell(two) {
			t.Fatalf("call %d, %+v: %t, %+v; then %t, %+v", number, c, first, tell(one), again, tell(two))
		}
	}
}

// source makes noise that is the same whenever the tests run.
type source uint64

func (s *source) below(n int) int {
	*s = *s*6364136223846793005 + 1442695040888963407
	return int(uint64(*s>>33) % uint64(n))
}
