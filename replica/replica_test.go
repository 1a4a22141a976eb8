package replica

import (
	"fmt"
	"math"
	"testing"
)

// scaled is a set of so many wanted, of which these are ready.
func scaled(t *testing.T, n int, ready ...int) *Set {
	t.Helper()
	s := New()
	s.Scale(n)
	for _, i := range ready {
		tells(t, s, "at first", i, true, true)
	}
	return s
}

// upTo are the numbers from 0 on that are below n.
func upTo(n int) []int {
	var l []int
	for i := range n {
		l = append(l, i)
	}
	return l
}

// tells complains unless Ready tells this.
func tells(t *testing.T, s *Set, what string, i int, ready, want bool) {
	t.Helper()
	if got := s.Ready(i, ready); got != want {
		t.Errorf("%s: Ready(%d, %t): %t; want %t", what, i, ready, got, want)
	}
}

// look complains unless so many are wanted, these and no others are ready, and what is full is told as the chapter says.
func look(t *testing.T, s *Set, what string, want int, ready ...int) {
	t.Helper()
	full := want > 0 && len(ready) == want
	if s.Want() != want || s.Count() != len(ready) || s.Full() != full {
		t.Errorf("%s: %d wanted, %d ready, full %t; want %d, %d, %t", what, s.Want(), s.Count(), s.Full(), want, len(ready), full)
	}
	is := map[int]bool{}
	for _, i := range ready {
		is[i] = true
	}
	for i := range want {
		if stands(s, i) != is[i] {
			t.Errorf("%s: %d is ready: %t; want %t", what, i, stands(s, i), is[i])
		}
	}
}

// stands is whether a wanted one is ready, seen by a copy of which it isn't any more.
func stands(s *Set, i int) bool {
	c := s.Copy()
	c.Ready(i, false)
	return c.Count() < s.Count()
}

// scales tells of numbers that are scaled to as how many they count.
func scales() map[int]int {
	m := map[int]int{
		math.MinInt: 0, math.MinInt + 1: 0, -1 << 32: 0, -1<<32 + 5: 0, math.MinInt32: 0, -256: 0, -33: 0, -32: 0, -2: 0, -1: 0,
		33: 32, 34: 32, 63: 32, 64: 32, 99: 32, 255: 32, 256: 32, 257: 32, math.MaxInt32: 32, 1 << 32: 32, 1<<32 + 3: 32, math.MaxInt - 1: 32, math.MaxInt: 32,
	}
	for n := range 33 {
		m[n] = n
	}
	return m
}

// strangers are numbers that no replica of so many has.
func strangers(want int) []int {
	l := []int{math.MinInt, math.MinInt + 1, -1 << 32, -1<<32 + 1, math.MinInt32, -64, -33, -32, -31, -2, -1, 32, 33, 63, 64, 65, 255, 256, 257, math.MaxInt32, 1 << 32, 1<<32 + 1, math.MaxInt - 1, math.MaxInt}
	for i := want; i < 32; i++ {
		l = append(l, i)
	}
	return l
}

// The document's example.
func TestExample(t *testing.T) {
	s := New()
	s.Scale(2)
	tells(t, s, "of 2", 0, true, true)
	tells(t, s, "of 2", 1, true, true)
	look(t, s, "of 2, both ready", 2, 0, 1)
	s.Scale(3)
	look(t, s, "then 3", 3, 0, 1)
	s.Scale(2)
	look(t, s, "then 2", 2, 0, 1)
	s.Scale(1)
	s.Scale(2)
	look(t, s, "then 1, then 2", 2, 0)
}

// P13.1, P13.2: of a new one none are wanted, none are ready, it isn't full, and nothing makes one ready.
func TestNew(t *testing.T) {
	s := New()
	look(t, s, "new", 0)
	for _, i := range strangers(0) {
		for _, ready := range []bool{true, false} {
			tells(t, s, "new", i, ready, false)
			look(t, s, "new", 0)
		}
	}
	s.Scale(32)
	look(t, s, "new, then 32", 32)
}

// P13.1: so many are wanted as Scale says, or the nearer end of its range, and none of them is ready at first.
func TestScale(t *testing.T) {
	for n, want := range scales() {
		s := New()
		s.Scale(n)
		what := fmt.Sprintf("Scale(%d)", n)
		look(t, s, what, want)
		for i := range want {
			tells(t, s, what, i, true, true)
		}
		look(t, s, what+", all ready", want, upTo(want)...)
		for _, i := range strangers(want) {
			tells(t, s, what, i, true, false)
		}
		look(t, s, what+", all ready", want, upTo(want)...)
	}
}

// some are lists of numbers below n: none, all, each alone, all but each, those at even and at odd places.
func some(n int) [][]int {
	lists := [][]int{nil, upTo(n), nil, nil}
	for i := range n {
		lists = append(lists, []int{i}, append(upTo(i), upTo(n)[i+1:]...))
		lists[2+i%2] = append(lists[2+i%2], i)
	}
	return lists
}

// below are those of a list that are below n.
func below(list []int, n int) []int {
	var l []int
	for _, i := range list {
		if i < n {
			l = append(l, i)
		}
	}
	return l
}

// P13.1: from any number to any other, those that stay wanted stand as they were, and none that comes is ready.
func TestScaleOn(t *testing.T) {
	for was := range 33 {
		for _, ready := range some(was) {
			for n, want := range scales() {
				s := scaled(t, was, ready...)
				s.Scale(n)
				look(t, s, fmt.Sprintf("%d with %v, then Scale(%d)", was, ready, n), want, below(ready, want)...)
			}
		}
	}
}

// P13.1, P13.2: one that was gone isn't ready when it comes again, however few were left, and however many come.
func TestGone(t *testing.T) {
	for was := range 33 {
		for few, left := range scales() {
			for _, many := range []int{left, left + 1, was, was + 1, 32, 33, math.MaxInt} {
				s := scaled(t, was, upTo(was)...)
				s.Scale(few)
				s.Scale(many)
				what := fmt.Sprintf("%d ready, then Scale(%d), then Scale(%d)", was, few, many)
				look(t, s, what, min(many, 32), upTo(min(was, left, many))...)
			}
		}
	}
}

// P13.1, P13.2: a number that came again is ready once it is told so, and full behind the last one.
func TestComesAgain(t *testing.T) {
	s := scaled(t, 32, upTo(32)...)
	for left := 31; left >= 0; left-- {
		s.Scale(left)
		s.Scale(32)
		for i := left; i < 32; i++ {
			look(t, s, fmt.Sprintf("%d left, %d ready", left, i), 32, upTo(i)...)
			tells(t, s, "again", i, true, true)
		}
		look(t, s, "all again", 32, upTo(32)...)
	}
}

// P13.1: each wanted one is ready, or isn't, as it is told, once and again; no other one is touched.
func TestReady(t *testing.T) {
	for want := range 33 {
		for i := range want {
			others := append(upTo(i), upTo(want)[i+1:]...)
			what := fmt.Sprintf("%d of %d", i, want)

			s := scaled(t, want)
			for range 3 {
				tells(t, s, what, i, false, true)
				look(t, s, what+" isn't", want)
			}
			for range 3 {
				tells(t, s, what, i, true, true)
				look(t, s, what+" alone", want, i)
			}
			tells(t, s, what, i, false, true)
			look(t, s, what+" isn't again", want)

			s = scaled(t, want, upTo(want)...)
			tells(t, s, what, i, true, true)
			look(t, s, what+", and all", want, upTo(want)...)
			for range 3 {
				tells(t, s, what, i, false, true)
				look(t, s, what+" isn't alone", want, others...)
			}
			tells(t, s, what, i, true, true)
			look(t, s, what+" again", want, upTo(want)...)
		}
	}
}

// P13.1: what isn't a wanted one's number is told so, and changes nothing, now or when its number is wanted.
func TestStrangers(t *testing.T) {
	for want := range 33 {
		for _, ready := range some(want) {
			s := scaled(t, want, ready...)
			what := fmt.Sprintf("%d with %v", want, ready)
			for _, i := range strangers(want) {
				for _, to := range []bool{true, true, false, false, true} {
					tells(t, s, what, i, to, false)
				}
				if s.Want() != want || s.Count() != len(ready) {
					t.Errorf("%s: Ready(%d, ..): %d, %d", what, i, s.Want(), s.Count())
				}
			}
			look(t, s, what, want, ready...)
			s.Scale(32)
			look(t, s, what+", then 32", 32, ready...)
		}
	}
}

// P13.1, P13.2: the numbers that went aren't those of wanted ones any more.
func TestNoneGone(t *testing.T) {
	for want := range 33 {
		s := scaled(t, 32, upTo(32)...)
		s.Scale(want)
		for _, i := range strangers(want) {
			tells(t, s, fmt.Sprintf("%d left", want), i, true, false)
			tells(t, s, fmt.Sprintf("%d left", want), i, false, false)
		}
		look(t, s, "left", want, upTo(want)...)
		s.Scale(32)
		look(t, s, "then 32", 32, upTo(want)...)
	}
}

// P13.2: full is what has one at least, and all ready: not with any of them that isn't, whichever it is.
func TestFull(t *testing.T) {
	s := New()
	if s.Full() {
		t.Error("full: none are wanted")
	}
	for want := 1; want <= 32; want++ {
		s := scaled(t, want)
		for i := range want {
			if s.Full() {
				t.Errorf("full: %d of %d are ready", i, want)
			}
			s.Ready(want-1-i, true)
		}
		if !s.Full() {
			t.Errorf("not full: all of %d are ready", want)
		}
		for i := range want {
			s.Ready(i, false)
			if s.Full() {
				t.Errorf("full: %d of %d isn't ready", i, want)
			}
			s.Ready(i, true)
			if !s.Full() {
				t.Errorf("not full: %d of %d is ready again", i, want)
			}
		}
		s.Scale(0)
		if s.Full() {
			t.Errorf("full: none of %d are wanted any more", want)
		}
	}
}

// P13.2: what isn't full as its last ones aren't ready is full when these are gone; one more that comes isn't ready.
func TestFullByScale(t *testing.T) {
	for want := 1; want <= 32; want++ {
		for ready := range want + 1 {
			s := scaled(t, want, upTo(ready)...)
			for n := want; n >= 0; n-- {
				s.Scale(n)
				if full := n > 0 && n <= ready; s.Full() != full {
					t.Errorf("%d of %d ready, Scale(%d): full %t; want %t", ready, want, n, s.Full(), full)
				}
			}
			s = scaled(t, want, upTo(want)...)
			s.Scale(want + 1)
			if s.Full() != (want == 32) {
				t.Errorf("all of %d ready, and one more: full %t", want, s.Full())
			}
		}
	}
}

// change is a call that changes a set.
type change struct {
	scale bool
	n     int // what it is scaled to, or a number
	ready bool
}

// do does it, and tells what comes of it.
func (c change) do(s *Set) bool {
	if c.scale {
		s.Scale(c.n)
		return true
	}
	return s.Ready(c.n, c.ready)
}

// changes are calls of each kind that tell on a set of so many.
func changes(want int) []change {
	l := []change{{scale: true, n: 0}, {scale: true, n: want - 1}, {scale: true, n: want}, {scale: true, n: want + 1}, {scale: true, n: 32}, {scale: true, n: -5}, {scale: true, n: 99}}
	for _, i := range []int{-1, 0, want / 2, want - 1, want} {
		l = append(l, change{n: i, ready: true}, change{n: i})
	}
	return l
}

// P13.1: a copy is like it; what is done to the one changes nothing of the other, either way.
func TestCopy(t *testing.T) {
	for want := range 33 {
		for _, ready := range some(want) {
			for _, c := range changes(want) {
				what := fmt.Sprintf("%d with %v, %+v", want, ready, c)
				s := scaled(t, want, ready...)
				like := s.Copy()
				look(t, like, what+": the copy", want, ready...)
				c.do(s)
				look(t, like, what+": the copy, behind the other's", want, ready...)
				like.Scale(32)
				look(t, like, what+": the copy, then 32", 32, ready...)

				s = scaled(t, want, ready...)
				like = s.Copy()
				c.do(like)
				look(t, s, what+": the first, behind the copy's", want, ready...)
				s.Scale(32)
				look(t, s, what+": the first, then 32", 32, ready...)
			}
		}
	}
}

// P13.1: a copy's copy, and a second one, stand apart too.
func TestCopies(t *testing.T) {
	s := scaled(t, 3, 0, 1)
	one, two := s.Copy(), s.Copy()
	third := one.Copy()
	one.Ready(2, true)
	two.Scale(1)
	third.Ready(0, false)
	s.Scale(5)
	look(t, s, "the first", 5, 0, 1)
	look(t, one, "its copy", 3, 0, 1, 2)
	look(t, two, "the second copy", 1, 0)
	look(t, third, "the copy's copy", 3, 1)
	fresh := New().Copy()
	look(t, fresh, "a new one's copy", 0)
	fresh.Scale(2)
	tells(t, fresh, "a new one's copy", 1, true, true)
	look(t, fresh, "a new one's copy", 2, 1)
	look(t, New(), "a new one behind all of them", 0)
}

// words is a slot's replicas by the chapter's words: of each wanted one's number whether it is ready.
type words map[int]bool

// do is what comes of a call.
func (w words) do(c change) bool {
	_, wanted := w[c.n]
	switch {
	case !c.scale && wanted:
		w[c.n] = c.ready
	case !c.scale:
		return false
	default:
		w.scale(c.n)
	}
	return true
}

// scale takes away those that aren't wanted any more, and adds those that weren't.
func (w words) scale(n int) {
	for i := range 32 {
		_, was := w[i]
		if i >= n {
			delete(w, i)
		} else if !was {
			w[i] = false
		}
	}
}

// ready are the numbers of those that are.
func (w words) ready() []int {
	var l []int
	for i := range 32 {
		if w[i] {
			l = append(l, i)
		}
	}
	return l
}

// hold complains unless the set tells what the words do.
func (w words) hold(t *testing.T, s *Set, what string) {
	t.Helper()
	full := len(w) > 0 && len(w.ready()) == len(w)
	if s.Want() != len(w) || s.Count() != len(w.ready()) || s.Full() != full {
		t.Fatalf("%s: %d wanted, %d ready, full %t; want %d, %d, %t", what, s.Want(), s.Count(), s.Full(), len(w), len(w.ready()), full)
	}
}

// P13.1, P13.2: all orders of up to five calls on few replicas, held against the words.
func TestAllOrders(t *testing.T) {
	var calls []change
	for n := range 4 {
		calls = append(calls, change{scale: true, n: n})
		calls = append(calls, change{n: n - 1, ready: true}, change{n: n - 1})
	}
	var from func(done []change)
	from = func(done []change) {
		s, w := New(), words{}
		for _, c := range done {
			if got, want := c.do(s), w.do(c); got != want {
				t.Fatalf("%+v: %t; want %t", done, got, want)
			}
		}
		w.hold(t, s, fmt.Sprintf("%+v", done))
		if len(done) < 5 {
			for _, c := range calls {
				from(append(done[:len(done):len(done)], c))
			}
		}
	}
	from(nil)
}

// random is one call, most often of few numbers that tell on each other.
func random(noise *source, want int) change {
	c := change{scale: noise.below(6) == 0, ready: noise.below(4) > 0}
	switch {
	case noise.below(30) == 0:
		c.n = []int{math.MinInt, -1 << 32, -1, 32, 33, 64, 1 << 32, math.MaxInt}[noise.below(8)]
	case c.scale && noise.below(3) > 0:
		c.n = want + noise.below(7) - 3
	case c.scale:
		c.n = noise.below(35) - 1
	default:
		c.n = noise.below(want+3) - 1
	}
	return c
}

// P13.1, P13.2: many orders of calls, with copies that go on beside the first, held against the words.
func TestManyOrders(t *testing.T) {
	noise := source(13)
	for round := range 1000 {
		sets, all := []*Set{New()}, []words{{}}
		for call := range 150 {
			at := noise.below(len(sets))
			s, w := sets[at], all[at]
			what := fmt.Sprintf("round %d, call %d", round, call)
			if noise.below(40) == 0 {
				again := words{}
				for i, ready := range w {
					again[i] = ready
				}
				sets, all = append(sets, s.Copy()), append(all, again)
				continue
			}
			c := random(&noise, len(w))
			if got, want := c.do(s), w.do(c); got != want {
				t.Fatalf("%s: %+v: %t; want %t", what, c, got, want)
			}
			for i := range sets {
				all[i].hold(t, sets[i], what)
			}
		}
		for i := range sets {
			look(t, sets[i], fmt.Sprintf("round %d", round), len(all[i]), all[i].ready()...)
		}
	}
}

// Looking changes nothing, however often.
func TestLooking(t *testing.T) {
	for want := range 33 {
		s := scaled(t, want, upTo(want/2)...)
		for range 3 {
			look(t, s, "looked at", want, upTo(want/2)...)
		}
	}
}

// Rule 6: two that are told the same tell the same, whatever a third is told between.
func TestAgain(t *testing.T) {
	one, two, third := New(), New(), New()
	noise := source(6)
	for i := range 5000 {
		c, other := random(&noise, one.Want()), random(&noise, third.Want())
		told := c.do(one)
		other.do(third)
		again := c.do(two)
		if told != again || one.Want() != two.Want() || one.Count() != two.Count() || one.Full() != two.Full() {
			t.Fatalf("call %d, %+v: %t, %d; then %t, %d", i, c, told, one.Count(), again, two.Count())
		}
	}
}

// source makes noise that is the same whenever the tests run.
type source uint64

func (s *source) below(n int) int {
	*s = *s*6364136223846793005 + 1442695040888963407
	return int(uint64(*s>>33) % uint64(n))
}
