package plan

import (
	"math"
	"slices"
	"testing"

	"switchback/api"
	"switchback/fleet"
	"switchback/fold"
)

// in30 is 2^30, as the chapters have it: the greatest tick, and the greatest revision.
const in30 = 1073741824

// of is a state that may be, in a phase, with a switch so far, slot 0 active: it wants 4 replicas of it, and 6 of the other slot.
func of(phase, far int) api.State {
	s := api.State{
		Phase: phase, Rev: [2]int{10, 20}, Want: [2]int{4, 6}, Passed: [2]bool{true, phase > 2},
		Delay: 7, Gen: 5, Switch: far, Flip: 9,
	}
	if phase == 0 {
		s.Rev[1], s.Want[1] = 0, 0
	}
	return s
}

// turned is the state with its slots changed one for the other.
func turned(s api.State) api.State {
	slices.Reverse(s.Rev[:])
	slices.Reverse(s.Want[:])
	slices.Reverse(s.Passed[:])
	s.Active = 1 - s.Active
	return s
}

// turnedView is the view with its slots changed one for the other.
func turnedView(v api.View) api.View {
	slices.Reverse(v.Want[:])
	slices.Reverse(v.Ready[:])
	return v
}

// all are the phases, each with each switch that may be there, for either slot active.
func all() []api.State {
	var l []api.State
	for phase := range 8 {
		for far := range 3 {
			if far == 0 || phase == 3 || phase == 6 {
				l = append(l, of(phase, far), turned(of(phase, far)))
			}
		}
	}
	return l
}

// view has of a slot how many are wanted, and ready, and of the one beside it likewise.
func view(slot int, its, besides [2]int) api.View {
	var v api.View
	v.Want[slot], v.Ready[slot] = its[0], its[1]
	v.Want[1-slot], v.Ready[1-slot] = besides[0], besides[1]
	return v
}

// unlike are how many are wanted, and ready, of a slot that isn't full, though the state wants n of it.
func unlike(n int) [][2]int {
	return [][2]int{
		{n, n - 1}, {n, 0}, {n, n + 1}, {n, 33}, {n, -n}, {n, 1<<32 + n}, {n, math.MinInt}, {n, math.MaxInt},
		{n - 1, n}, {0, n}, {n + 1, n}, {33, n}, {-n, n}, {1<<32 + n, n}, {math.MinInt, n}, {math.MaxInt, n},
		{n - 1, n - 1}, {n + 1, n + 1}, {n - 1, n + 1}, {n + 1, n - 1}, {0, 0}, {33, 33}, {-n, -n}, {math.MaxInt, math.MaxInt},
	}
}

// does complains unless this is what is to be done, and likewise with the slots changed.
func does(t *testing.T, s api.State, v api.View, now, action int, r api.Rec) {
	t.Helper()
	for range 2 {
		if !fold.Right(s) {
			t.Fatalf("%+v may not be", s)
		}
		if a, got := Next(s, v, now); a != action || got != r {
			t.Errorf("Next(%+v, %+v, %d): %d, %+v; want %d, %+v", s, v, now, a, got, action, r)
		}
		s, v = turned(s), turnedView(v)
	}
}

// fullIs complains unless Full tells that of a slot, and likewise with the slots changed.
func fullIs(t *testing.T, s api.State, v api.View, slot int, want bool) {
	t.Helper()
	for range 2 {
		if Full(s, v, slot) != want {
			t.Errorf("Full(%+v, %+v, %d): %v", s, v, slot, !want)
		}
		s, v, slot = turned(s), turnedView(v), 1-slot
	}
}

// isFull is the chapter's word, of a state that may be: one to 32 are wanted by the state, by the view, and ready.
func isFull(s api.State, v api.View, slot int) bool {
	for n := 1; n <= 32; n++ {
		if [3]int{s.Want[slot], v.Want[slot], v.Ready[slot]} == [3]int{n, n, n} {
			return true
		}
	}
	return false
}

// isDue: is now at least Delay more than Flip? A number that isn't above the other one is 0 more than it.
func isDue(s api.State, now int) bool {
	more := uint64(0)
	if now > s.Flip {
		more = uint64(now) - uint64(s.Flip)
	}
	return more >= uint64(s.Delay)
}

// row is a line of the chapter's table.
type row struct {
	phases []int
	given  func(s api.State, full bool, now int) bool
	action int
	kind   int
	more   int // how much the record's generation is more than the state's; -1: it has none
}

// rows are the lines of the chapter's table, without the last one; no two hold at once.
func rows() []row {
	either := []int{3, 6}
	return []row{
		{[]int{1}, func(s api.State, full bool, now int) bool { return full }, 1, 3, -1},
		{either, func(s api.State, full bool, now int) bool { return s.Switch == 0 && full }, 2, 5, 1},
		{either, func(s api.State, full bool, now int) bool { return s.Switch == 1 && full }, 3, 6, 0},
		{either, func(s api.State, full bool, now int) bool { return s.Switch == 1 && !full }, 4, 7, 0},
		{either, func(s api.State, full bool, now int) bool { return s.Switch == 2 }, 5, 0, -1},
		{[]int{5}, func(s api.State, full bool, now int) bool { return isDue(s, now) }, 6, 10, -1},
		{[]int{7}, func(s api.State, full bool, now int) bool { return true }, 6, 10, -1},
	}
}

// asPromised is what P16.1 asks of Next.
func asPromised(lines []row, s api.State, v api.View, now int) (int, api.Rec) {
	full := isFull(s, v, 1-s.Active)
	for _, x := range lines {
		if slices.Contains(x.phases, s.Phase) && x.given(s, full, now) {
			r := api.Rec{Kind: x.kind}
			if x.more >= 0 {
				r.Gen = s.Gen + x.more
			}
			return x.action, r
		}
	}
	return 0, api.Rec{}
}

// ticks are such as now may be, and such as no clock tells, too.
func ticks() []int {
	return []int{
		0, 1, 8, 9, 10, 15, 16, 17, in30 - 1, in30, in30 + 1, in30 + 65536, 1 << 32, 1<<32 + 16,
		-1, -16, -in30, math.MinInt32, math.MinInt, math.MinInt + 1, math.MaxInt32, math.MaxInt - 1, math.MaxInt,
	}
}

// The document's examples.
func TestExamples(t *testing.T) {
	s := of(api.PDelay, 0)
	s.Delay, s.Flip = 3, 5
	does(t, s, api.View{}, 7, api.AWait, api.Rec{})
	does(t, s, api.View{}, 8, api.AScale, api.Rec{Kind: api.KScaled})
}

// P16.1: Full of slots that there aren't, though both that there are are full.
func TestFullOfNoSlots(t *testing.T) {
	for _, s := range all() {
		s.Want = [2]int{5, 5}
		v := api.View{Want: [2]int{5, 5}, Ready: [2]int{5, 5}}
		for _, slot := range []int{-1, -2, 2, 3, 32, 255, 256, 257, 1 << 32, 1<<32 + 1, -1 << 32, math.MinInt, math.MinInt + 1, math.MaxInt - 1, math.MaxInt} {
			fullIs(t, s, v, slot, false)
			if Full(api.State{}, api.View{}, slot) {
				t.Errorf("slot %d of nothing is full", slot)
			}
		}
		fullIs(t, s, v, 0, true)
		fullIs(t, s, v, 1, true)
	}
}

// P16.1: Full of a slot of which the state wants none, or fewer, whatever the view says.
func TestFullOfNone(t *testing.T) {
	for _, n := range []int{0, -1, -4, -1 << 32, math.MinInt} {
		for slot := range 2 {
			s := of(api.PStable, 0)
			s.Want[slot], s.Want[1-slot] = n, 4
			for _, its := range [][2]int{{n, n}, {0, 0}, {4, 4}, {n, 4}, {4, n}, {1, 1}, {0, 1}, {1, 0}, {-1, -1}, {32, 32}} {
				fullIs(t, s, view(slot, its, [2]int{4, 4}), slot, false)
				fullIs(t, s, view(slot, its, [2]int{4, 4}), 1-slot, true)
			}
		}
	}
}

// P16.1: Full of a slot of which just as many, fewer, more or none are wanted, and ready; the slot beside it plays no part.
func TestFullByNumbers(t *testing.T) {
	for _, n := range []int{1, 2, 3, 4, 16, 31, 32} {
		for slot := range 2 {
			for _, beside := range []int{0, 1, n, 32} {
				s := of(api.PCutover, 0)
				s.Want[slot], s.Want[1-slot] = n, beside
				for _, besides := range append(unlike(n), [2]int{n, n}, [2]int{beside, beside}) {
					fullIs(t, s, view(slot, [2]int{n, n}, besides), slot, true)
					for _, its := range unlike(n) {
						fullIs(t, s, view(slot, its, besides), slot, false)
					}
				}
			}
		}
	}
}

// P16.1: Full over all small numbers of one slot, by themselves.
func TestFullOfSmallNumbers(t *testing.T) {
	full := 0
	for wants := range 34 {
		for wanted := range 34 {
			for ready := range 34 {
				s, v := api.State{Want: [2]int{wants, 2}}, api.View{Want: [2]int{wanted, 2}, Ready: [2]int{ready, 1}}
				want := wants > 0 && wanted == wants && ready == wants
				fullIs(t, s, v, 0, want)
				fullIs(t, s, v, 1, false)
				if want {
					full++
				}
			}
		}
	}
	if full != 33 {
		t.Errorf("%d were full", full)
	}
}

// P16.1: Full looks at nothing but how many are wanted, and ready: not at the phase, the switch, the revisions, nor which slot is active.
func TestFullOfAnyState(t *testing.T) {
	for _, s := range append(all(), api.State{}, api.State{Phase: -1, Active: 7, Gen: -1, Switch: 9, Flip: math.MinInt}) {
		s.Want = [2]int{3, 8}
		for slot, n := range s.Want {
			fullIs(t, s, view(slot, [2]int{n, n}, [2]int{1, 0}), slot, true)
			fullIs(t, s, view(slot, [2]int{n, n - 1}, [2]int{1, 0}), slot, false)
			fullIs(t, s, view(slot, [2]int{n, n}, [2]int{1, 0}), 1-slot, false)
		}
	}
}

// line is what is to be done in a phase, with a switch so far, and the other slot full, or not; of generation 5, at tick 15, which is one short of Flip and Delay.
type line struct {
	phase, far int
	full       bool
	action     int
	r          api.Rec
}

func lines() []line {
	l := []line{
		{0, 0, false, 0, api.Rec{}},
		{1, 0, false, 0, api.Rec{}}, {1, 0, true, 1, api.Rec{Kind: 3}},
		{2, 0, false, 0, api.Rec{}}, {2, 0, true, 0, api.Rec{}},
		{4, 0, false, 0, api.Rec{}}, {4, 0, true, 0, api.Rec{}},
		{5, 0, false, 0, api.Rec{}}, {5, 0, true, 0, api.Rec{}},
		{7, 0, false, 6, api.Rec{Kind: 10}}, {7, 0, true, 6, api.Rec{Kind: 10}},
	}
	for _, phase := range []int{3, 6} {
		l = append(l,
			line{phase, 0, false, 0, api.Rec{}}, line{phase, 0, true, 2, api.Rec{Kind: 5, Gen: 6}},
			line{phase, 1, false, 4, api.Rec{Kind: 7, Gen: 5}}, line{phase, 1, true, 3, api.Rec{Kind: 6, Gen: 5}},
			line{phase, 2, false, 5, api.Rec{}}, line{phase, 2, true, 5, api.Rec{}})
	}
	return l
}

// P16.1: what is to be done in each phase, with each switch, the other slot full or not, and the active one full or not.
func TestNext(t *testing.T) {
	for _, x := range lines() {
		s := of(x.phase, x.far)
		others := unlike(s.Want[1])
		if x.full {
			others = [][2]int{{6, 6}}
		}
		for _, its := range others {
			for _, actives := range append(unlike(4), [2]int{4, 4}, [2]int{6, 6}) {
				does(t, s, view(1, its, actives), 15, x.action, x.r)
			}
		}
	}
}

// P16.1: in PStable there is nothing to do, whatever the view has of the slot of which the state wants none.
func TestNextInPStable(t *testing.T) {
	for _, its := range [][2]int{{0, 0}, {1, 1}, {4, 4}, {6, 6}, {6, 0}, {0, 6}, {-1, -1}, {math.MaxInt, math.MaxInt}} {
		for _, now := range ticks() {
			does(t, of(api.PStable, 0), view(1, its, [2]int{4, 4}), now, api.AWait, api.Rec{})
		}
	}
}

// P16.1: either slot's numbers at both ends of what may be wanted, and both slots of the same number.
func TestNextByNumbers(t *testing.T) {
	for _, n := range []int{1, 2, 31, 32} {
		for _, active := range []int{1, n, 32} {
			s := of(api.PPrewarm, 0)
			s.Want = [2]int{active, n}
			does(t, s, view(1, [2]int{n, n}, [2]int{active, 0}), 0, api.AWarm, api.Rec{Kind: api.KWarm})
			for _, its := range unlike(n) {
				does(t, s, view(1, its, [2]int{active, active}), 0, api.AWait, api.Rec{})
				does(t, s, view(1, its, [2]int{n, n}), 0, api.AWait, api.Rec{})
			}
		}
	}
}

// P16.1: the record's generation, at the ends of what the state's may be; at the greatest, KPrepare is of one more still.
func TestGens(t *testing.T) {
	full, short := view(1, [2]int{6, 6}, [2]int{4, 4}), view(1, [2]int{6, 5}, [2]int{4, 4})
	for _, phase := range []int{api.PCutover, api.PRollback} {
		for gen, next := range map[int]int{0: 1, 1: 2, 2: 3, 1048574: 1048575, 1048575: 1048576, 1048576: 1048577} {
			s := of(phase, api.SNone)
			s.Gen = gen
			does(t, s, full, 0, api.APrepare, api.Rec{Kind: api.KPrepare, Gen: next})
			does(t, s, short, 0, api.AWait, api.Rec{})
			if gen == 0 {
				continue
			}
			s.Switch = api.SReady
			does(t, s, full, 0, api.ACommit, api.Rec{Kind: api.KCommit, Gen: gen})
			does(t, s, short, 0, api.ACancel, api.Rec{Kind: api.KCancel, Gen: gen})
			s.Switch = api.SCommit
			does(t, s, full, 0, api.ARoute, api.Rec{})
			does(t, s, short, 0, api.ARoute, api.Rec{})
		}
	}
}

// P16.1: a generation plays no part where there is no switch.
func TestGensElsewhere(t *testing.T) {
	full := view(1, [2]int{6, 6}, [2]int{4, 4})
	for _, gen := range []int{0, 1, 1048575, 1048576} {
		for _, x := range []struct {
			phase, action int
			r             api.Rec
		}{
			{0, 0, api.Rec{}}, {1, 1, api.Rec{Kind: 3}}, {2, 0, api.Rec{}}, {4, 0, api.Rec{}},
			{5, 6, api.Rec{Kind: 10}}, {7, 6, api.Rec{Kind: 10}},
		} {
			s := of(x.phase, 0)
			s.Gen = gen
			does(t, s, full, 16, x.action, x.r)
		}
	}
}

// P16.1: the delay, at the ends of Delay, Flip and now, and one beside them.
func TestDelays(t *testing.T) {
	for _, flip := range []int{0, 1, 5, 9, in30 - 1, in30} {
		for _, delay := range []int{0, 1, 2, 3, 7, 65535, 65536} {
			s := of(api.PDelay, 0)
			s.Delay, s.Flip = delay, flip
			for now, scale := range map[int]bool{
				flip + delay:         true,
				flip + delay + 1:     true,
				flip + delay + in30:  true,
				flip + delay - 1:     delay == 0,
				flip + delay - 2:     delay == 0,
				flip - 1:             delay == 0,
				flip - delay - 1:     delay == 0,
				flip - in30 - 1:      delay == 0,
				-1:                   delay == 0,
				-in30:                delay == 0,
				math.MinInt:          delay == 0,
				math.MinInt + 1:      delay == 0,
				math.MinInt + flip:   delay == 0,
				math.MinInt + flip/2: delay == 0,
				math.MaxInt - 1:      true,
				math.MaxInt:          true,
			} {
				action, r := api.AWait, api.Rec{}
				if scale {
					action, r = api.AScale, api.Rec{Kind: api.KScaled}
				}
				does(t, s, view(1, [2]int{6, 6}, [2]int{4, 4}), now, action, r)
				does(t, s, api.View{}, now, action, r)
			}
		}
	}
}

// P16.1: at Flip itself the delay is over if there is none, and else it isn't.
func TestAtTheFlip(t *testing.T) {
	for _, flip := range []int{0, 1, 9, in30} {
		s := of(api.PDelay, 0)
		s.Flip = flip
		for _, delay := range []int{1, 2, 65536} {
			s.Delay = delay
			does(t, s, api.View{}, flip, api.AWait, api.Rec{})
		}
		s.Delay = 0
		does(t, s, api.View{}, flip, api.AScale, api.Rec{Kind: api.KScaled})
	}
}

// views are such as a slot, or none, or either is full in.
func views(s api.State) []api.View {
	l := []api.View{{}, {Want: s.Want}, {Ready: s.Want}, {Want: s.Want, Ready: s.Want}}
	o := 1 - s.Active
	for _, its := range append(unlike(s.Want[o]), [2]int{s.Want[o], s.Want[o]}) {
		l = append(l, view(o, its, [2]int{s.Want[s.Active], s.Want[s.Active]}), view(o, its, [2]int{}))
	}
	return l
}

// P16.1: now plays no part but in PDelay, and with it neither do Delay and Flip.
func TestNoTick(t *testing.T) {
	for _, s := range all() {
		if s.Phase == api.PDelay {
			continue
		}
		for _, v := range views(s) {
			action, r := Next(s, v, 0)
			for _, now := range ticks() {
				x := s
				does(t, x, v, now, action, r)
				x.Delay, x.Flip = 0, 0
				does(t, x, v, now, action, r)
				x.Delay, x.Flip = 65536, in30
				does(t, x, v, now, action, r)
			}
		}
	}
}

// P16.1: the view plays no part in PDelay and PRetire, nor where there is nothing to do, nor once a switch is committed.
func TestNoView(t *testing.T) {
	for _, s := range all() {
		if s.Phase == api.PPrewarm || (s.Phase == api.PCutover || s.Phase == api.PRollback) && s.Switch != api.SCommit {
			continue
		}
		for _, now := range []int{0, 15, 16, in30} {
			action, r := Next(s, api.View{}, now)
			for _, v := range views(s) {
				does(t, s, v, now, action, r)
			}
		}
	}
}

// P16.1: the revisions, and how many the state wants of the active slot, play no part.
func TestOtherFields(t *testing.T) {
	for _, s := range all() {
		for _, v := range views(s) {
			for _, now := range []int{0, 16} {
				action, r := Next(s, v, now)
				x := s
				x.Want[x.Active] = 32
				does(t, x, v, now, action, r)
				x.Want[x.Active] = 1
				x.Rev[x.Active] = in30
				if x.Phase != api.PStable {
					x.Rev[1-x.Active] = 1
				}
				does(t, x, v, now, action, r)
			}
		}
	}
}

// seen counts what was to be done, by phase, switch and action, so that no check holds of nothing.
type seen map[[3]int]int

// enough complains unless all that the table has came up.
func (x seen) enough(t *testing.T) {
	t.Helper()
	want := [][3]int{{0, 0, 0}, {1, 0, 0}, {1, 0, 1}, {2, 0, 0}, {4, 0, 0}, {5, 0, 0}, {5, 0, 6}, {7, 0, 6}}
	for _, phase := range []int{3, 6} {
		want = append(want, [3]int{phase, 0, 0}, [3]int{phase, 0, 2}, [3]int{phase, 1, 3}, [3]int{phase, 1, 4}, [3]int{phase, 2, 5})
	}
	for _, k := range want {
		if x[k] == 0 {
			t.Errorf("never in phase %d, with switch %d, action %d", k[0], k[1], k[2])
		}
	}
	if len(x) != len(want) {
		t.Errorf("%d came up; want %d: %v", len(x), len(want), x)
	}
}

// holds complains unless P16.1 and P16.2 hold of one state and one view.
func holds(t *testing.T, lines []row, x seen, s api.State, v api.View, now int) {
	t.Helper()
	if !fold.Right(s) {
		t.Fatalf("%+v may not be", s)
	}
	action, r := Next(s, v, now)
	want, record := asPromised(lines, s, v, now)
	if action != want || r != record {
		t.Fatalf("Next(%+v, %+v, %d): %d, %+v; want %d, %+v", s, v, now, action, r, want, record)
	}
	x[[3]int{s.Phase, s.Switch, action}]++
	full := isFull(s, v, 1-s.Active)
	for slot := range 2 {
		if Full(s, v, slot) != isFull(s, v, slot) {
			t.Fatalf("Full(%+v, %+v, %d): %v", s, v, slot, !isFull(s, v, slot))
		}
	}
	if (action == api.APrepare || action == api.ACommit) && !full {
		t.Fatalf("Next(%+v, %+v, %d): %d, to a slot that isn't full", s, v, now, action)
	}
	canCome(t, s, action, r)
}

// canCome complains unless what is to be done has a record that can come; of a generation that there isn't it can't.
func canCome(t *testing.T, s api.State, action int, r api.Rec) {
	t.Helper()
	switch action {
	case api.AWait:
		return
	case api.ARoute:
		r = api.Rec{Kind: api.KApplied, Gen: s.Gen}
	}
	next, comes := fold.Step(s, r)
	want := s.Gen < 1048576 || action != api.APrepare
	if comes != want {
		t.Fatalf("in %+v %d is to be done, and its record %+v comes: %v", s, action, r, comes)
	}
	if comes && !fold.Right(next) {
		t.Fatalf("%+v in %+v makes %+v, which may not be", r, s, next)
	}
}

// P16.1, P16.2: states of each phase, with each switch, and views, at the ends of what is asked of them.
func TestAllAtTheEnds(t *testing.T) {
	lines, x := rows(), seen{}
	for _, s := range all() {
		for _, gen := range []int{0, 1, 2, 1048574, 1048575, 1048576} {
			if s.Gen = gen; !fold.Right(s) {
				continue
			}
			for _, v := range views(s) {
				for _, now := range ticks() {
					holds(t, lines, x, s, v, now)
				}
			}
		}
	}
	x.enough(t)
}

// source makes noise that is the same whenever the tests run.
type source uint64

func (s *source) below(n int) int {
	*s = *s*6364136223846793005 + 1442695040888963407
	return int(uint64(*s>>33) % uint64(n))
}

func (s *source) one(l ...int) int { return l[s.below(len(l))] }

// state is one that may be, often at its ranges' ends.
func (s *source) state() api.State {
	states := all()
	x := states[s.below(len(states))]
	x.Gen = s.one(1, 2, 1048574, 1048575, 1048576, 1+s.below(1048576))
	x.Delay = s.one(0, 1, 65535, 65536, s.below(65537))
	x.Flip = s.one(0, 1, in30-1, in30, s.below(in30))
	x.Rev[x.Active] = s.one(1, 2, 3, in30)
	x.Want[x.Active] = 1 + s.below(32)
	if x.Phase != api.PStable {
		x.Rev[1-x.Active] = s.one(4, 5, in30-1)
		x.Want[1-x.Active] = 1 + s.below(32)
	}
	return x
}

// view is one in which each of the slots is often full.
func (s *source) view(x api.State) api.View {
	v := api.View{Want: x.Want, Ready: x.Want}
	for slot := range 2 {
		if s.below(3) == 0 {
			v.Want[slot] = s.one(v.Want[slot]-1, v.Want[slot]+1, s.below(33), 0, -1, math.MaxInt)
		}
		if s.below(3) == 0 {
			v.Ready[slot] = s.one(v.Ready[slot]-1, v.Ready[slot]+1, v.Want[slot], s.below(33), 0, -1, math.MinInt)
		}
	}
	return v
}

func (s *source) now(x api.State) int {
	due := x.Flip + x.Delay
	return s.one(due-1, due, due+1, due, x.Flip-1, x.Flip, x.Flip+1, 0, in30, s.below(in30), -1, math.MinInt, math.MaxInt)
}

// P16.1, P16.2: many states and views, held against the chapter's words.
func TestMany(t *testing.T) {
	lines, x, noise := rows(), seen{}, source(16)
	for range 200000 {
		s := noise.state()
		v := noise.view(s)
		holds(t, lines, x, s, v, noise.now(s))
	}
	x.enough(t)
}

// machine is a state, replicas and a clock, and does what is to be done.
type machine struct {
	s   api.State
	f   *fleet.Fleet
	now int
}

func start() *machine {
	m := &machine{f: fleet.New()}
	m.s, _ = fold.First(1, 2)
	m.f.Apply(m.s.Want)
	m.f.Fill()
	return m
}

// comes brings a record to the state, and the replicas to what it wants.
func (m *machine) comes(t *testing.T, r api.Rec) {
	t.Helper()
	next, ok := fold.Step(m.s, r)
	if !ok {
		t.Fatalf("%+v can't come in %+v", r, m.s)
	}
	m.s = next
	m.f.Apply(m.s.Want)
}

// steps complains unless these are done, one by one.
func (m *machine) steps(t *testing.T, actions ...int) {
	t.Helper()
	for i, want := range actions {
		action, r := Next(m.s, m.f.View(), m.now)
		if action != want {
			t.Fatalf("step %d in %+v, %+v, at %d: %d; want %d", i, m.s, m.f.View(), m.now, action, want)
		}
		switch action {
		case api.AWait:
		case api.ARoute:
			m.comes(t, api.Rec{Kind: api.KApplied, Gen: m.s.Gen, Tick: m.now})
		default:
			m.comes(t, r)
		}
	}
}

// ahead brings a rollout to the cutover, which is ready to go.
func (m *machine) ahead(t *testing.T, rev int) {
	t.Helper()
	m.comes(t, api.Rec{Kind: api.KDeploy, Rev: rev, N: 3, Delay: 4})
	m.steps(t, api.AWait, api.AWait)
	m.f.Fill()
	m.steps(t, api.AWarm, api.AWait)
	m.comes(t, api.Rec{Kind: api.KPre, Pass: true})
}

// P16.1, P16.2: a rollout from its deploy to its end, and the next one, the other way.
func TestRollout(t *testing.T) {
	m := start()
	m.steps(t, api.AWait)
	for i, rev := range []int{2, 3} {
		m.ahead(t, rev)
		m.steps(t, api.APrepare, api.ACommit, api.ARoute, api.AWait)
		m.comes(t, api.Rec{Kind: api.KPost, Pass: true})
		m.now += 3
		m.steps(t, api.AWait, api.AWait)
		m.now++
		m.steps(t, api.AScale, api.AWait)
		if m.s.Gen != i+1 || m.s.Active != 1-i || m.s.Phase != api.PStable || m.s.Rev[m.s.Active] != rev {
			t.Errorf("at the end: %+v", m.s)
		}
	}
}

// P16.1, P16.2: a replica that becomes unready ahead of the commit: what was prepared is cancelled, and prepared again with the same generation.
func TestUnready(t *testing.T) {
	m := start()
	m.ahead(t, 2)
	m.f.Ready(1, 2, false)
	m.steps(t, api.AWait, api.AWait)
	m.f.Ready(1, 2, true)
	m.steps(t, api.APrepare)
	m.f.Ready(1, 0, false)
	m.steps(t, api.ACancel, api.AWait)
	if m.s.Gen != 0 {
		t.Errorf("behind the cancel the generation is %d", m.s.Gen)
	}
	m.f.Ready(1, 0, true)
	m.f.Ready(0, 0, false)
	m.steps(t, api.APrepare, api.ACommit)
	m.f.Ready(1, 0, false)
	m.steps(t, api.ARoute, api.AWait)
	if m.s.Gen != 1 || m.s.Active != 1 {
		t.Errorf("behind the switch: %+v", m.s)
	}
}

// P16.1, P16.2: back by a new switch, once the elder slot is full; and no delay is waited for there.
func TestBack(t *testing.T) {
	for _, aborted := range []bool{false, true} {
		m := start()
		m.ahead(t, 2)
		m.steps(t, api.APrepare, api.ACommit, api.ARoute)
		m.comes(t, api.Rec{Kind: api.KPost, Pass: aborted})
		if aborted {
			m.steps(t, api.AWait)
			m.comes(t, api.Rec{Kind: api.KAbort})
		}
		m.f.Ready(0, 1, false)
		m.steps(t, api.AWait)
		m.f.Ready(0, 1, true)
		m.steps(t, api.APrepare, api.ACommit, api.ARoute, api.AScale, api.AWait)
		if m.s.Gen != 2 || m.s.Active != 0 || m.s.Rev != [2]int{1, 0} {
			t.Errorf("at the end: %+v", m.s)
		}
	}
}

// P16.1: of a state that may not be nothing is promised, but each call ends (rule 1).
func TestStatesThatMayNotBe(t *testing.T) {
	strange := []int{math.MinInt, math.MinInt + 1, -1, 0, 1, 2, 3, 8, in30 + 1, math.MaxInt - 1, math.MaxInt}
	for _, phase := range append([]int{4, 5, 6, 7}, strange...) {
		for _, active := range strange {
			for _, n := range strange {
				for _, far := range strange {
					s := api.State{
						Phase: phase, Active: active, Want: [2]int{n, n}, Switch: far,
						Delay: n, Gen: -n, Flip: -active, Passed: [2]bool{far > 0, true},
					}
					v := api.View{Want: s.Want, Ready: s.Want}
					Next(s, v, active)
					Next(s, api.View{}, n)
					Full(s, v, active)
				}
			}
		}
	}
}

// P16.1: the same is answered again, whatever was asked between (rule 6).
func TestAgain(t *testing.T) {
	type asked struct {
		s      api.State
		v      api.View
		now    int
		action int
		r      api.Rec
		full   [2]bool
	}
	noise := source(6)
	var l []asked
	for range 2000 {
		x := asked{s: noise.state()}
		x.v, x.now = noise.view(x.s), noise.now(x.s)
		x.action, x.r = Next(x.s, x.v, x.now)
		x.full = [2]bool{Full(x.s, x.v, 0), Full(x.s, x.v, 1)}
		l = append(l, x)
	}
	slices.Reverse(l)
	for _, x := range l {
		action, r := Next(x.s, x.v, x.now)
		full := [2]bool{Full(x.s, x.v, 0), Full(x.s, x.v, 1)}
		if action != x.action || r != x.r || full != x.full {
			t.Errorf("Next(%+v, %+v, %d): %d, %+v, %v; it was %d, %+v, %v", x.s, x.v, x.now, action, r, full, x.action, x.r, x.full)
		}
	}
}
