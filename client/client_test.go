package client

import (
	"fmt"
	"math"
	"slices"
	"testing"

	"switchback/api"
	"switchback/fuse"
	"switchback/router"
)

// at is a router whose route is so, with its fuse. Of generation 0 it is a new one, whose fuse has borne nothing.
func at(t *testing.T, route api.Cell) (*router.Router, *fuse.Fuse) {
	t.Helper()
	f := fuse.New()
	r := router.New(f)
	if route.Gen > 0 {
		if e := r.Call(route.Gen, route.Slot); e != api.OK {
			t.Fatalf("the first call, of %+v: %d", route, e)
		}
	}
	return r, f
}

// sets complains unless Set tells this.
func sets(t *testing.T, r *router.Router, what string, to api.Cell, tries int, want api.Errno, calls int) {
	t.Helper()
	if e, n := Set(r, to, tries); e != want || n != calls {
		t.Errorf("%s: Set(%+v, %d): %d, %d; want %d, %d", what, to, tries, e, n, want, calls)
	}
}

// look complains unless the route is so, and was set so often.
func look(t *testing.T, r *router.Router, what string, route api.Cell, writes int) {
	t.Helper()
	if r.Cell() != route || r.Writes() != writes {
		t.Errorf("%s: %+v, set %d times; want %+v, %d", what, r.Cell(), r.Writes(), route, writes)
	}
}

// counts complains unless so many calls were borne, and the fuse is blown or not.
func counts(t *testing.T, f *fuse.Fuse, what string, want int, blown bool) {
	t.Helper()
	if f.Count() != want || f.Blown() != blown {
		t.Errorf("%s: the fuse bore %d, blown %t; want %d, %t", what, f.Count(), f.Blown(), want, blown)
	}
}

// left complains unless these outcomes come of the next calls, and behind them none is scripted. It moves the route on.
func left(t *testing.T, r *router.Router, what string, outcomes ...int) {
	t.Helper()
	for i, o := range append(slices.Clone(outcomes), api.OAck, api.OAck) {
		route, want := r.Cell(), api.OK
		if o == api.OLost || o == api.OFail {
			want = api.ErrRouter
		}
		next := api.Cell{Slot: 1 - route.Slot, Gen: route.Gen + 1}
		if o != api.OFail {
			route = next
		}
		if e := r.Call(next.Gen, next.Slot); e != want || r.Cell() != route {
			t.Errorf("%s: %v, the one at place %d: %d, %+v; want %d, %+v", what, outcomes, i, e, r.Cell(), want, route)
		}
	}
}

// most tells of numbers of tries as how many they count.
func most() map[int]int {
	m := map[int]int{
		math.MinInt: 1, math.MinInt + 1: 1, -1 << 32: 1, -1<<32 + 5: 1, math.MinInt32: 1, -256: 1, -8: 1, -2: 1, -1: 1, 0: 1,
		9: 8, 10: 8, 16: 8, 99: 8, 256: 8, 257: 8, math.MaxInt32: 8, 1 << 32: 8, 1<<32 + 3: 8, math.MaxInt - 1: 8, math.MaxInt: 8,
	}
	for n := 1; n <= 8; n++ {
		m[n] = n
	}
	return m
}

// acks are outcomes that are told: OAck, and numbers that are no outcome and count as it.
func acks() []int {
	return []int{api.OAck, math.MinInt, -2, -1, 3, 4, 257, 258, 1<<32 + 1, 1<<32 + 2, math.MaxInt}
}

// untold are lists of n outcomes that aren't told, each with how many of them come till the first that is done (n, if none is).
func untold(n int) map[int][]int {
	lists := map[int][]int{}
	for first := range n + 1 {
		var l []int
		for i := range n {
			// Behind the first that is done others fail too: a route that is set stays.
			if i == first || i > first && i%2 == 0 {
				l = append(l, api.OLost)
			} else {
				l = append(l, api.OFail)
			}
		}
		lists[first] = l
	}
	return lists
}

// The document's example, with 8 tries and with 2.
func TestExample(t *testing.T) {
	to := api.Cell{Slot: 1, Gen: 1}
	r, f := at(t, api.Cell{})
	r.Script(api.OFail, api.OLost)
	sets(t, r, "8 tries", to, 8, api.OK, 3)
	look(t, r, "8 tries", to, 1)
	counts(t, f, "8 tries", 3, false)

	r, f = at(t, api.Cell{})
	r.Script(api.OFail, api.OLost)
	sets(t, r, "2 tries", to, 2, api.ErrRouter, 2)
	look(t, r, "2 tries", to, 1)
	counts(t, f, "2 tries", 2, false)
	left(t, r, "2 tries")
}

// P12.1: with no outcome scripted, and with each that is told at once, one call does, whatever the tries.
func TestToldAtOnce(t *testing.T) {
	to := api.Cell{Slot: 1, Gen: 7}
	for tries := range most() {
		r, f := at(t, api.Cell{Slot: 0, Gen: 3})
		sets(t, r, "none scripted", to, tries, api.OK, 1)
		look(t, r, "none scripted", to, 2)
		counts(t, f, "none scripted", 2, false)
		for _, o := range acks() {
			r, f := at(t, api.Cell{Slot: 0, Gen: 3})
			r.Script(o, api.OFail, api.OLost)
			what := fmt.Sprintf("outcome %d", o)
			sets(t, r, what, to, tries, api.OK, 1)
			look(t, r, what, to, 2)
			counts(t, f, what, 2, false)
			left(t, r, what, api.OFail, api.OLost)
		}
	}
}

// P12.1: fewer outcomes that aren't told than tries, as many, and more, with all that a first one behind them may be.
func TestTries(t *testing.T) {
	was, to := api.Cell{Slot: 0, Gen: 3}, api.Cell{Slot: 1, Gen: 4}
	for tries, most := range most() {
		for n := range 13 {
			for first, l := range untold(n) {
				for _, behind := range acks() {
					r, f := at(t, was)
					r.Script(append(slices.Clone(l), behind)...)
					what := fmt.Sprintf("%v, then %d", l, behind)
					want, calls, rest := api.OK, n+1, []int(nil)
					if n >= most {
						want, calls, rest = api.ErrRouter, most, append(slices.Clone(l[most:]), behind)
					}
					route, writes := to, 2
					if first >= calls {
						route, writes = was, 1
					}
					sets(t, r, what, to, tries, want, calls)
					look(t, r, what, route, writes)
					counts(t, f, what, calls+1, false)
					left(t, r, what, rest...)
				}
			}
		}
	}
}

// P12.1: a route out of range on either side: one call, which the fuse doesn't count, and which uses no outcome.
func TestRange(t *testing.T) {
	var cells []api.Cell
	for _, gen := range []int{math.MinInt, math.MinInt32, -1 << 20, -1, 0, 1<<20 + 1, 1 << 21, 1 << 32, 1<<32 + 1, math.MaxInt} {
		cells = append(cells, api.Cell{Slot: 0, Gen: gen}, api.Cell{Slot: 1, Gen: gen}, api.Cell{Slot: 2, Gen: gen})
	}
	for _, slot := range []int{math.MinInt, -2, -1, 2, 3, 256, 1 << 32, 1<<32 + 1, math.MaxInt} {
		cells = append(cells, api.Cell{Slot: slot, Gen: 1}, api.Cell{Slot: slot, Gen: 4}, api.Cell{Slot: slot, Gen: api.MaxGen})
	}
	was := api.Cell{Slot: 1, Gen: 3}
	for _, to := range cells {
		for tries := range most() {
			r, f := at(t, was)
			r.Script(api.OFail, api.OLost)
			sets(t, r, "out of range", to, tries, api.ErrRange, 1)
			look(t, r, "out of range", was, 1)
			counts(t, f, "out of range", 1, false)
			f.Arm(0)
			sets(t, r, "out of range, armed with 0", to, tries, api.ErrRange, 1)
			counts(t, f, "out of range, armed with 0", 1, false)
			f.Reset()
			left(t, r, "out of range", api.OFail, api.OLost)
		}
	}
}

// P12.1: the generation and the slot are each called as such, at both ends of their ranges. A new router's own route is out of range.
func TestEnds(t *testing.T) {
	for _, gen := range []int{1, 2, api.MaxGen - 1, api.MaxGen} {
		for slot := range 2 {
			to := api.Cell{Slot: slot, Gen: gen}
			r, _ := at(t, api.Cell{})
			r.Script(api.OFail)
			sets(t, r, "at an end", to, 3, api.OK, 2)
			look(t, r, "at an end", to, 1)
		}
	}
	r, f := at(t, api.Cell{})
	sets(t, r, "the first route", api.Cell{}, 8, api.ErrRange, 1)
	look(t, r, "the first route", api.Cell{}, 0)
	counts(t, f, "the first route", 0, false)
}

// P12.1: a route that is too old, or of the router's own generation with the other slot, and the router's own: none is set; what is told ends the calls, behind as many as aren't told.
func TestNotSet(t *testing.T) {
	for _, was := range []api.Cell{{Slot: 0, Gen: 5}, {Slot: 1, Gen: 5}, {Slot: 1, Gen: api.MaxGen}} {
		for to, told := range map[api.Cell]api.Errno{
			{Slot: 0, Gen: 1}:                  api.ErrStale,
			{Slot: 1, Gen: 1}:                  api.ErrStale,
			{Slot: 0, Gen: was.Gen - 1}:        api.ErrStale,
			{Slot: 1, Gen: was.Gen - 1}:        api.ErrStale,
			{Slot: 1 - was.Slot, Gen: was.Gen}: api.ErrStale,
			{Slot: was.Slot, Gen: was.Gen}:     api.OK,
		} {
			for tries, most := range most() {
				for n := range 10 {
					for _, l := range untold(n) {
						r, f := at(t, was)
						r.Script(l...)
						what := fmt.Sprintf("%+v ahead, %v", was, l)
						want, calls := told, n+1
						if n >= most {
							want, calls = api.ErrRouter, most
						}
						sets(t, r, what, to, tries, want, calls)
						look(t, r, what, was, 1)
						counts(t, f, what, calls+1, false)
					}
				}
			}
		}
	}
}

// P12.1: a fuse that bears no call, fewer than would be done, as many, and more. What isn't borne is a call too, the last one, and uses no outcome.
func TestHalt(t *testing.T) {
	was, to := api.Cell{Slot: 1, Gen: 3}, api.Cell{Slot: 0, Gen: 9}
	for bears := range 10 {
		for tries, most := range most() {
			for n := range 10 {
				for first, l := range untold(n) {
					r, f := at(t, was)
					r.Script(l...)
					f.Arm(bears)
					what := fmt.Sprintf("%d borne, %v", bears, l)
					want, calls := api.OK, n+1
					if n >= most {
						want, calls = api.ErrRouter, most
					}
					borne, halted := calls, bears < calls
					if halted {
						want, calls, borne = api.ErrHalt, bears+1, bears
					}
					route, writes := to, 2
					if first >= borne {
						route, writes = was, 1
					}
					sets(t, r, what, to, tries, want, calls)
					look(t, r, what, route, writes)
					counts(t, f, what, borne+1, halted)
					f.Reset()
					left(t, r, what, l[min(borne, n):]...)
				}
			}
		}
	}
}

// P12.1: a fuse that is blown already: one call; reset, or armed anew, it goes on.
func TestBlown(t *testing.T) {
	was, to := api.Cell{Slot: 0, Gen: 2}, api.Cell{Slot: 1, Gen: 3}
	r, f := at(t, was)
	f.Arm(0)
	f.Spend()
	r.Script(api.OLost, api.OFail)
	for tries := range most() {
		sets(t, r, "blown", to, tries, api.ErrHalt, 1)
		look(t, r, "blown", was, 1)
		counts(t, f, "blown", 1, true)
	}
	f.Arm(1)
	sets(t, r, "armed with 1", to, 8, api.ErrHalt, 2)
	look(t, r, "armed with 1", to, 2)
	counts(t, f, "armed with 1", 2, true)
	f.Reset()
	sets(t, r, "reset", to, 8, api.OK, 2)
	look(t, r, "reset", to, 2)
	counts(t, f, "reset", 4, false)
}

// P12.1: outcomes that weren't used come of later calls, of Set's and of the router's.
func TestOutcomesLeft(t *testing.T) {
	to := api.Cell{Slot: 1, Gen: 1}
	r, _ := at(t, api.Cell{})
	for range 12 {
		r.Script(api.OFail)
	}
	sets(t, r, "5 of 12", to, 5, api.ErrRouter, 5)
	if e := r.Call(1, 1); e != api.ErrRouter {
		t.Errorf("the sixth of 12: %d", e)
	}
	sets(t, r, "3 of 6", to, 3, api.ErrRouter, 3)
	look(t, r, "9 of 12", api.Cell{}, 0)
	r.Script(api.OLost)
	sets(t, r, "the last ones", to, 9, api.OK, 5)
	look(t, r, "the last ones", to, 1)

	r.Script(api.OAck, api.OFail, 7, api.OLost, api.OLost)
	sets(t, r, "one is told", api.Cell{Slot: 0, Gen: 2}, 8, api.OK, 1)
	sets(t, r, "one fails", api.Cell{Slot: 1, Gen: 3}, 8, api.OK, 2)
	sets(t, r, "one is lost", api.Cell{Slot: 0, Gen: 4}, 1, api.ErrRouter, 1)
	look(t, r, "one is lost", api.Cell{Slot: 0, Gen: 4}, 4)
	sets(t, r, "the other is lost", api.Cell{Slot: 1, Gen: 4}, 2, api.ErrStale, 2)
	look(t, r, "the other is lost", api.Cell{Slot: 0, Gen: 4}, 4)
	left(t, r, "none is left")
}

// words is what Set's calls do, by the chapters' words: the route, how often it was set, the outcomes that didn't come yet, and how many calls the fuse bears (below 0: any).
type words struct {
	route         api.Cell
	writes, bears int
	coming        []int
}

// call is one call of the router.
func (w *words) call(to api.Cell) api.Errno {
	if to.Slot != 0 && to.Slot != 1 || to.Gen < 1 || to.Gen > 1<<20 {
		return api.ErrRange
	}
	if w.bears == 0 {
		return api.ErrHalt
	}
	w.bears = max(w.bears-1, -1)
	outcome := 0
	if len(w.coming) > 0 {
		outcome, w.coming = w.coming[0], w.coming[1:]
	}
	if outcome == 2 {
		return api.ErrRouter
	}
	told := api.ErrStale
	if to.Gen > w.route.Gen {
		w.route, w.writes = to, w.writes+1
	}
	if to == w.route {
		told = api.OK
	}
	if outcome == 1 {
		told = api.ErrRouter
	}
	return told
}

// set is Set: of the calls that may be done the last one is that which is told anything else, or the last of all.
func (w *words) set(to api.Cell, tries int) (e api.Errno, n int) {
	if tries < 1 {
		tries = 1
	}
	if tries > 8 {
		tries = 8
	}
	for n = 1; n <= tries; n++ {
		if e = w.call(to); e != api.ErrRouter {
			return e, n
		}
	}
	return e, tries
}

// P12.1, P12.2: all lists of up to five outcomes, with all that they may meet, held against the words; behind Set the route is what it was, or what it was to be.
func TestAllOutcomes(t *testing.T) {
	was := api.Cell{Slot: 0, Gen: 2}
	lists := [][]int{nil}
	for from, length := 0, 0; length < 5; length++ {
		for end := len(lists); from < end; from++ {
			for o := range 3 {
				lists = append(lists, append(slices.Clone(lists[from]), o))
			}
		}
	}
	for _, l := range lists {
		for tries := range 10 {
			for bears := -1; bears < 7; bears++ {
				for _, to := range []api.Cell{{Slot: 0, Gen: 1}, {Slot: 0, Gen: 2}, {Slot: 1, Gen: 2}, {Slot: 1, Gen: 3}, {Slot: 0, Gen: 3}, {Slot: 2, Gen: 3}} {
					r, f := at(t, was)
					w := &words{route: was, writes: 1, bears: bears, coming: l}
					r.Script(l...)
					if bears >= 0 {
						f.Arm(bears)
					}
					e, n := Set(r, to, tries)
					want, calls := w.set(to, tries)
					if e != want || n != calls || r.Cell() != w.route || r.Writes() != w.writes || r.Cell() != was && r.Cell() != to {
						t.Fatalf("%v, %d borne: Set(%+v, %d): %d, %d, %+v, set %d times; want %d, %d, %+v, %d", l, bears, to, tries, e, n, r.Cell(), r.Writes(), want, calls, w.route, w.writes)
					}
				}
			}
		}
	}
}

// P12.1, P12.2: many orders of Sets, held against the words.
func TestManyOrders(t *testing.T) {
	noise := source(12)
	for round := range 2000 {
		f := fuse.New()
		r, w := router.New(f), &words{bears: -1}
		for call := range 60 {
			what := fmt.Sprintf("round %d, call %d", round, call)
			switch noise.below(10) {
			case 0:
				f.Reset()
				w.bears = -1
			case 1:
				w.bears = noise.below(12)
				f.Arm(w.bears)
			case 2, 3, 4:
				for range noise.below(9) {
					o := noise.below(5) - 1
					r.Script(o)
					w.coming = append(w.coming, o)
				}
			default:
				to, tries := api.Cell{Slot: noise.below(2), Gen: noise.below(14)}, noise.below(13)-2
				if noise.below(20) == 0 {
					to.Slot, to.Gen = noise.below(4)-1, noise.below(3)-1+api.MaxGen*noise.below(2)
				}
				was := r.Cell()
				e, n := Set(r, to, tries)
				if want, calls := w.set(to, tries); e != want || n != calls {
					t.Fatalf("%s: Set(%+v, %d): %d, %d; want %d, %d", what, to, tries, e, n, want, calls)
				}
				if r.Cell() != was && r.Cell() != to || e == api.OK && r.Cell() != to {
					t.Fatalf("%s: %+v behind %+v, which was to be %+v: %d", what, r.Cell(), was, to, e)
				}
			}
			if r.Cell() != w.route || r.Writes() != w.writes {
				t.Fatalf("%s: %+v, set %d times; want %+v, %d", what, r.Cell(), r.Writes(), w.route, w.writes)
			}
		}
	}
}

// P12.2: with more tries than outcomes are scripted that aren't OAck, wherever among the others these stand, a route of a greater generation is set, once, and told.
func TestSetAndTold(t *testing.T) {
	noise := source(2)
	for tries := 1; tries <= 8; tries++ {
		for round := range 500 {
			l := make([]int, 12)
			for range noise.below(tries) {
				l[noise.below(len(l))] = []int{api.OLost, api.OFail, -1, 3}[noise.below(4)]
			}
			was := api.Cell{Slot: noise.below(2), Gen: 1 + noise.below(5)}
			to := api.Cell{Slot: noise.below(2), Gen: was.Gen + 1 + noise.below(3)}
			r, _ := at(t, was)
			r.Script(l...)
			if e, n := Set(r, to, tries); e != api.OK || n > tries || r.Cell() != to || r.Writes() != 2 {
				t.Fatalf("round %d: %v: Set(%+v, %d): %d, %d, %+v, set %d times", round, l, to, tries, e, n, r.Cell(), r.Writes())
			}
		}
	}
}

// Rule 6: two that are told the same tell the same, whatever a third is told between.
func TestAgain(t *testing.T) {
	one, _ := at(t, api.Cell{})
	two, _ := at(t, api.Cell{})
	third, _ := at(t, api.Cell{})
	noise := source(6)
	for i := range 2000 {
		to, tries, o := api.Cell{Slot: noise.below(3), Gen: noise.below(30 + i)}, noise.below(10), noise.below(4)
		one.Script(o, o/2)
		e, n := Set(one, to, tries)
		third.Script(api.OFail, o)
		Set(third, api.Cell{Slot: o, Gen: to.Gen + i}, 9-tries)
		two.Script(o, o/2)
		again, m := Set(two, to, tries)
		if e != again || n != m || one.Cell() != two.Cell() || one.Writes() != two.Writes() {
			t.Fatalf("Set %d: %d, %d, %+v; then %d, %d, %+v", i, e, n, one.Cell(), again, m, two.Cell())
		}
	}
}

// source makes noise that is the same whenever the tests run.
type source uint64

func (s *source) below(n int) int {
	*s = *s*6364136223846793005 + 1442695040888963407
	return int(uint64(*s>>33) % uint64(n))
}
