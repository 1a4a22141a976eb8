package model

import (
	"fmt"
	"math"
	"slices"
	"testing"

	"switchback/api"
	"switchback/fleet"
	"switchback/fold"
)

// of is a state that may be, in a phase, with a switch so far, slot 0 active: it wants 4 replicas of it, and 6 of the other slot.
func of(phase, far int) api.State {
	s := api.State{
		Phase: phase, Rev: [2]int{10, 20}, Want: [2]int{4, 6}, Passed: [2]bool{true, phase > 2},
		Delay: 7, Gen: 5, Switch: far, Flip: 9,
	}
	if phase == 0 {
		s.Rev[1], s.Want[1] = 0, 0
	}
	return s
}

// turned is the state with its slots changed one for the other.
func turned(s api.State) api.State {
	slices.Reverse(s.Rev[:])
	slices.Reverse(s.Want[:])
	slices.Reverse(s.Passed[:])
	s.Active = 1 - s.Active
	return s
}

// switched is the state behind its switch.
func switched(s api.State, phase, gen, tick int) api.State {
	s.Active = 1 - s.Active
	s.Phase, s.Gen, s.Switch, s.Flip = phase, gen, 0, tick
	return s
}

// routed is the route that a state has, unless a switch of it was done, and not told.
func routed(s api.State) api.Cell {
	if s.Switch != 0 {
		return api.Cell{Slot: s.Active, Gen: s.Gen - 1}
	}
	return api.Cell{Slot: s.Active, Gen: s.Gen}
}

// at is a pair in that state, at that tick, with the first so many replicas ready, of the active slot and of the other one.
func at(t *testing.T, s api.State, actives, others, tick, tries int) *pair {
	t.Helper()
	if !fold.Right(s) {
		t.Fatalf("%+v may not be", s)
	}
	x := begun(t, 1, 1, tries)
	route := routed(s)
	if e := x.m.router.Call(route.Gen, route.Slot); e != api.OK {
		t.Fatalf("the first call, of %+v: %d", route, e)
	}
	x.m.state, x.m.fleet, x.m.tick = s, fleet.New(), tick
	x.m.fleet.Apply(s.Want)
	x.p.s, x.p.ready, x.p.route, x.p.tick = s, [2][32]bool{}, route, tick
	x.did = []string{fmt.Sprintf("%+v, %d and %d ready, tick %d, %d tries", s, actives, others, tick, tries)}
	for i := range actives {
		x.ready(s.Active, i, true)
	}
	for i := range others {
		x.ready(1-s.Active, i, true)
	}
	return x
}

// view is of the active slot how many are wanted, and ready, and of the other one likewise.
func view(active int, its, others [2]int) api.View {
	var v api.View
	v.Want[active], v.Ready[active] = its[0], its[1]
	v.Want[1-active], v.Ready[1-active] = others[0], others[1]
	return v
}

// stands complains unless this is how all stands.
func (x *pair) stands(s api.State, route api.Cell, v api.View, tick int) {
	x.t.Helper()
	want := api.Reply{Err: api.OK, State: s, Cell: route, View: v, Up: true, Tick: tick}
	if got := x.m.Reply(); got != want {
		x.t.Fatalf("%s: %+v; want %+v", x.did, got, want)
	}
}

// ops complains unless these operations are done.
func (x *pair) ops(l ...api.Op) {
	x.t.Helper()
	for _, o := range l {
		if e := x.op(o); e != api.OK {
			x.t.Fatalf("%s: %d", x.did, e)
		}
	}
}

// steps complains unless a step tells that.
func (x *pair) steps(want api.Errno, outcomes ...int) {
	x.t.Helper()
	if e := x.step(outcomes...); e != want {
		x.t.Fatalf("%s: %d; want %d", x.did, e, want)
	}
}

// ahead brings a new revision to the cutover, all of it ready.
func (x *pair) ahead(rev, n, delay int) {
	x.t.Helper()
	x.ops(api.Op{Kind: api.KDeploy, Rev: rev, N: n, Delay: delay})
	x.fill(1 - x.p.s.Active)
	x.steps(api.OK)
	x.ops(api.Op{Kind: api.KPre, Rev: rev, Pass: true})
}

// most tells of numbers of tries as how many they count.
func most() map[int]int {
	m := map[int]int{
		math.MinInt: 1, -1 << 32: 1, -1<<32 + 5: 1, math.MinInt32: 1, -8: 1, -1: 1, 0: 1,
		9: 8, 10: 8, 256: 8, 257: 8, math.MaxInt32: 8, 1 << 32: 8, 1<<32 + 3: 8, math.MaxInt: 8,
	}
	for n := 1; n <= 8; n++ {
		m[n] = n
	}
	return m
}

// The document's example.
func TestExample(t *testing.T) {
	x := begun(t, 1, 2, 3)
	x.ops(api.Op{Kind: api.KDeploy, Rev: 2, N: 1})
	x.steps(api.OK)
	x.ready(1, 0, true)
	x.steps(api.OK)
	x.ops(api.Op{Kind: api.KPre, Rev: 2, Pass: true})
	x.steps(api.OK)
	if r := x.m.Reply(); r.Cell != (api.Cell{Slot: 1, Gen: 1}) || r.State.Active != 1 || r.State.Phase != api.PPostGate {
		t.Errorf("%+v", r)
	}
}

// The examples of the whole that need no disk: 1, 4, 6, 7 and 10.
func TestExamplesOfTheWhole(t *testing.T) {
	x := begun(t, 1, 2, 3)
	x.ops(api.Op{Kind: api.KDeploy, Rev: 2, N: 3, Delay: 4})
	x.stands(api.State{Phase: 1, Rev: [2]int{1, 2}, Want: [2]int{2, 3}, Passed: [2]bool{true, false}, Delay: 4},
		api.Cell{}, api.View{Want: [2]int{2, 3}, Ready: [2]int{2, 0}}, 0)
	x.fill(1)
	x.steps(api.OK)
	x.ops(api.Op{Kind: api.KPre, Rev: 2, Pass: true})
	cutover := api.State{Phase: 3, Rev: [2]int{1, 2}, Want: [2]int{2, 3}, Passed: [2]bool{true, true}, Delay: 4}
	full := api.View{Want: [2]int{2, 3}, Ready: [2]int{2, 3}}
	x.stands(cutover, api.Cell{}, full, 0)
	x.steps(api.OK, api.OLost)
	x.stands(switched(cutover, 4, 1, 0), api.Cell{Slot: 1, Gen: 1}, full, 0)
	x.ops(api.Op{Kind: api.KPost, Rev: 2, Pass: true}, api.Op{Kind: api.KAbort})
	x.stands(switched(cutover, 6, 1, 0), api.Cell{Slot: 1, Gen: 1}, full, 0)
	x.tick(2)
	x.steps(api.OK)
	back := api.State{Phase: 7, Rev: [2]int{1, 2}, Want: [2]int{2, 3}, Passed: [2]bool{true, true}, Delay: 4, Gen: 2, Flip: 2}
	x.stands(back, api.Cell{Slot: 0, Gen: 2}, full, 2)
	x.steps(api.OK)
	stable := api.State{Rev: [2]int{1, 0}, Want: [2]int{2, 0}, Passed: [2]bool{true, false}, Delay: 4, Gen: 2, Flip: 2}
	alone := api.View{Want: [2]int{2, 0}, Ready: [2]int{2, 0}}
	x.stands(stable, api.Cell{Slot: 0, Gen: 2}, alone, 2)
	x.ahead(3, 1, 4)
	x.ops(api.Op{Kind: api.KAbort})
	x.stands(stable, api.Cell{Slot: 0, Gen: 2}, alone, 2)
	x.tick(in30)
	if e := x.op(api.Op{Kind: api.KDeploy, Rev: 3, N: 1}); e != api.ErrOver {
		t.Errorf("a deploy at the last tick: %d", e)
	}
}

// P17.1: New at the ends of rev, n and tries, and between: the state, tick 0, the fleet set and all of it ready, the route of a new router.
func TestNew(t *testing.T) {
	for _, rev := range []int{1, 2, 3, 255, 256, 65536, in20, in30 - 1, in30} {
		for n := 1; n <= 32; n++ {
			for tries := range most() {
				x := begun(t, rev, n, tries)
				s := api.State{Rev: [2]int{rev, 0}, Want: [2]int{n, 0}, Passed: [2]bool{true, false}}
				v := api.View{Want: [2]int{n, 0}, Ready: [2]int{n, 0}}
				x.stands(s, api.Cell{}, v, 0)
				x.steps(api.OK)
				x.stands(s, api.Cell{}, v, 0)
				x.which()
			}
		}
	}
}

// P17.1: New out of range: ErrRange and nil, whatever the tries; with either one, or both.
func TestNewOutOfRange(t *testing.T) {
	revs := []int{math.MinInt, -in30, -1 << 32, -1<<32 + 1, -1, 0, in30 + 1, 1 << 31, 1 << 32, 1<<32 + 1, math.MaxInt}
	ns := []int{math.MinInt, -32, -1 << 32, -1<<32 + 1, -1, 0, 33, 34, 64, 256, 257, 1 << 32, 1<<32 + 1, math.MaxInt}
	refused := func(rev, n int) {
		for tries := range most() {
			if m, e := New(rev, n, tries); m != nil || e != api.ErrRange {
				t.Errorf("New(%d, %d, %d): %v, %d", rev, n, tries, m, e)
			}
		}
	}
	for _, rev := range revs {
		for _, n := range append([]int{1, 2, 32}, ns...) {
			refused(rev, n)
		}
	}
	for _, n := range ns {
		for _, rev := range []int{1, 2, in30} {
			refused(rev, n)
		}
	}
}

// P17.1: each New makes a model of its own.
func TestApart(t *testing.T) {
	x, y := begun(t, 1, 2, 1), begun(t, 1, 2, 1)
	x.steps(api.OK, api.OFail)
	x.ready(0, 1, false)
	x.tick(7)
	x.ahead(2, 3, 1)
	y.stands(api.State{Rev: [2]int{1, 0}, Want: [2]int{2, 0}, Passed: [2]bool{true, false}}, api.Cell{},
		api.View{Want: [2]int{2, 0}, Ready: [2]int{2, 0}}, 0)
	y.ahead(5, 1, 0)
	y.steps(api.OK)
	y.look()
	x.look()
	x.steps(api.ErrRouter)
	y.look()
}

// asked is an operation, and what it tells in each phase: PStable to PPreGate, PCutover by its switch, and PPostGate to PRetire. What is behind it, where it is done, is the state that it makes.
type asked struct {
	o      api.Op
	told   [10]api.Errno
	behind func(phase int) api.State
}

// situations are the states, slot 0 active, of which asked tells.
func situations() []api.State {
	return []api.State{of(0, 0), of(1, 0), of(2, 0), of(3, 0), of(3, 1), of(3, 2), of(4, 0), of(5, 0), of(6, 0), of(7, 0)}
}

// askedOps are operations of each Kind and of others, of states of which revision 10 is active, and 20 the other one.
func askedOps() []asked {
	deployed := func(rev, n, delay int) func(int) api.State {
		return func(int) api.State {
			s := of(1, 0)
			s.Rev[1], s.Want[1], s.Delay = rev, n, delay
			return s
		}
	}
	to := func(phase int) func(int) api.State {
		return func(int) api.State { return of(phase, 0) }
	}
	aborted := func(phase int) api.State {
		if phase < 4 {
			return of(0, 0)
		}
		return of(6, 0)
	}
	never := [10]api.Errno{7, 7, 7, 7, 7, 7, 7, 7, 7, 7}
	neverBut := func(place int, e api.Errno) [10]api.Errno {
		l := never
		l[place] = e
		return l
	}
	deploys := [10]api.Errno{0, 0, 0, 7, 7, 7, 7, 7, 7, 7}
	all := func(e api.Errno) [10]api.Errno { return [10]api.Errno{e, e, e, e, e, e, e, e, e, e} }
	l := []asked{
		{api.Op{Kind: 1, Rev: 30, N: 3, Delay: 2}, deploys, deployed(30, 3, 2)},
		{api.Op{Kind: 1, Rev: 20, N: 6, Delay: 7}, deploys, deployed(20, 6, 7)},
		{api.Op{Kind: 1, Rev: 1, N: 1, Delay: 0, Pass: true}, deploys, deployed(1, 1, 0)},
		{api.Op{Kind: 1, Rev: in30, N: 32, Delay: 65536}, deploys, deployed(in30, 32, 65536)},
		{api.Op{Kind: 1, Rev: 10, N: 3}, [10]api.Errno{8, 8, 8, 7, 7, 7, 7, 7, 7, 7}, nil},
		{api.Op{Kind: 2}, [10]api.Errno{7, 0, 0, 0, 7, 7, 0, 0, 7, 7}, aborted},
		{api.Op{Kind: 2, Rev: -1, N: 99, Delay: -1, Pass: true}, [10]api.Errno{7, 0, 0, 0, 7, 7, 0, 0, 7, 7}, aborted},
		{api.Op{Kind: 4, Rev: 20, Pass: true}, neverBut(2, 0), to(3)},
		{api.Op{Kind: 4, Rev: 20}, neverBut(2, 0), to(0)},
		{api.Op{Kind: 4, Rev: 20, Pass: true, N: -1, Delay: -1}, neverBut(2, 0), to(3)},
		{api.Op{Kind: 4, Rev: 10, Pass: true}, neverBut(2, 13), nil},
		{api.Op{Kind: 4, Rev: 21, Pass: true}, neverBut(2, 13), nil},
		{api.Op{Kind: 9, Rev: 10, Pass: true}, neverBut(6, 0), to(5)},
		{api.Op{Kind: 9, Rev: 10}, neverBut(6, 0), to(6)},
		{api.Op{Kind: 9, Rev: 10, N: 33, Delay: 65537}, neverBut(6, 0), to(6)},
		{api.Op{Kind: 9, Rev: 20, Pass: true}, neverBut(6, 13), nil},
		{api.Op{Kind: 9, Rev: 9}, neverBut(6, 13), nil},
	}
	for _, rev := range []int{math.MinInt, -1, 0, in30 + 1, math.MaxInt} {
		for _, kind := range []int{1, 4, 9} {
			l = append(l, asked{api.Op{Kind: kind, Rev: rev, N: 3, Pass: true}, all(1), nil})
		}
	}
	for _, n := range []int{math.MinInt, -1, 0, 33, 1<<32 + 1, math.MaxInt} {
		l = append(l, asked{api.Op{Kind: 1, Rev: 30, N: n}, all(1), nil})
	}
	for _, delay := range []int{math.MinInt, -1, 65537, 1 << 32, math.MaxInt} {
		l = append(l, asked{api.Op{Kind: 1, Rev: 30, N: 3, Delay: delay}, all(1), nil})
	}
	for _, kind := range []int{math.MinInt, -1, 0, 3, 5, 6, 7, 8, 10, 11, 12, 257, 1<<32 + 1, math.MaxInt} {
		l = append(l, asked{api.Op{Kind: kind, Rev: 20, N: 3, Pass: true}, all(6), nil})
	}
	return l
}

// P17.2: each operation, done and refused in each phase, for either slot active: all of the reply behind it, and which replicas are ready. What is refused changes nothing.
func TestOps(t *testing.T) {
	done, refused := 0, 0
	for _, a := range askedOps() {
		for i, s := range situations() {
			for _, turn := range []bool{false, true} {
				for _, others := range []int{0, 1, 2, 5, 6} {
					others = min(others, s.Want[1])
					behind, ready := s, others
					if a.told[i] == api.OK {
						behind = a.behind(s.Phase)
						ready = min(others, behind.Want[1])
						done++
					} else {
						refused++
					}
					now := s
					if turn {
						now, behind = turned(now), turned(behind)
					}
					x := at(t, now, 3, others, 12, 1)
					if e := x.op(a.o); e != a.told[i] {
						t.Fatalf("%s: %d; want %d", x.did, e, a.told[i])
					}
					x.stands(behind, routed(now), view(now.Active, [2]int{4, 3}, [2]int{behind.Want[1-now.Active], ready}), 12)
					x.which()
				}
			}
		}
	}
	if done < 200 || refused < 2000 {
		t.Errorf("%d were done, %d refused", done, refused)
	}
}

// P17.2: a refused operation leaves what is scripted, and the steps that follow, as they are.
func TestRefusedAmidSteps(t *testing.T) {
	x := begun(t, 1, 1, 2)
	refuse := func() {
		t.Helper()
		was := x.m.Reply()
		for _, o := range []api.Op{
			{}, {Kind: api.KDeploy, Rev: 1, N: 1}, {Kind: api.KDeploy, Rev: 2, N: 33}, {Kind: api.KPre, Rev: 9, Pass: true},
			{Kind: api.KPost, Rev: 9}, {Kind: api.KPre}, {Kind: api.KApplied}, {Kind: api.KSnap},
		} {
			if e := x.op(o); e == api.OK || x.m.Reply() != was {
				t.Fatalf("%s: %d, %+v; it was %+v", x.did, e, x.m.Reply(), was)
			}
		}
	}
	refuse()
	x.steps(api.OK, api.OFail, api.OFail, api.OLost)
	refuse()
	x.ahead(2, 2, 3)
	refuse()
	x.steps(api.ErrRouter)
	refuse()
	x.steps(api.OK)
	refuse()
	x.ops(api.Op{Kind: api.KPost, Rev: 2})
	refuse()
	x.steps(api.OK)
	refuse()
	x.steps(api.OK)
	refuse()
	x.stands(api.State{Rev: [2]int{1, 0}, Want: [2]int{1, 0}, Passed: [2]bool{true, false}, Delay: 3, Gen: 2},
		api.Cell{Slot: 0, Gen: 2}, api.View{Want: [2]int{1, 0}, Ready: [2]int{1, 0}}, 0)
}

// P17.2: the fleet behind deploys: more replicas than there were, fewer, and such as come again, which aren't ready.
func TestFleetBehindOps(t *testing.T) {
	x := begun(t, 1, 4, 1)
	ready := func(want, ready int) {
		t.Helper()
		if v := x.m.Reply().View; v != (api.View{Want: [2]int{4, want}, Ready: [2]int{4, ready}}) {
			t.Fatalf("%s: %+v; want %d, %d ready", x.did, v, want, ready)
		}
		x.which()
	}
	deploy := func(n int) {
		t.Helper()
		x.ops(api.Op{Kind: api.KDeploy, Rev: 2, N: n})
	}
	deploy(3)
	ready(3, 0)
	x.fill(1)
	ready(3, 3)
	deploy(3)
	ready(3, 3)
	deploy(5)
	ready(5, 3)
	deploy(2)
	ready(2, 2)
	deploy(32)
	ready(32, 2)
	x.fill(1)
	x.steps(api.OK)
	deploy(1)
	ready(1, 1)
	x.steps(api.OK)
	x.ops(api.Op{Kind: api.KPre, Rev: 2})
	ready(0, 0)
	deploy(1)
	ready(1, 0)
	x.ops(api.Op{Kind: api.KAbort})
	ready(0, 0)
}

// P17.2: no deploy any more at the last tick, nor with a generation above 2^20 - 2; aborts and gates go on there.
func TestOpsAtTheEnds(t *testing.T) {
	deploy := api.Op{Kind: api.KDeploy, Rev: 30, N: 3, Delay: 1}
	for _, c := range []struct {
		phase, gen, tick int
		told             api.Errno
	}{
		{0, 1, in30 - 1, 0}, {0, 1, in30, 9}, {2, 1, in30 - 1, 0}, {2, 1, in30, 9}, {4, 1, in30 - 1, 7}, {4, 1, in30, 9},
		{0, in20 - 3, 0, 0}, {0, in20 - 2, 0, 0}, {0, in20 - 1, 0, 9}, {0, in20, 0, 9}, {1, in20 - 2, 0, 0}, {1, in20 - 1, 0, 9}, {5, in20, 0, 9},
	} {
		s := of(c.phase, 0)
		s.Gen = c.gen
		x := at(t, s, 4, 0, c.tick, 1)
		if e := x.op(deploy); e != c.told {
			t.Errorf("%s: %d; want %d", x.did, e, c.told)
		}
		if c.told != api.OK {
			x.stands(s, routed(s), view(0, [2]int{4, 4}, [2]int{s.Want[1], 0}), c.tick)
		}
	}
	for _, gen := range []int{1, in20} {
		s := of(api.PPreGate, 0)
		s.Gen = gen
		at(t, s, 4, 0, in30, 1).ops(api.Op{Kind: api.KPre, Rev: 20, Pass: true}, api.Op{Kind: api.KAbort})
		s = of(api.PPostGate, 0)
		s.Gen = gen
		at(t, s, 4, 0, in30, 1).ops(api.Op{Kind: api.KPost, Rev: 10, Pass: true}, api.Op{Kind: api.KAbort})
	}
}

// turn is a step of a state, slot 0 active, all of the other slot ready or all but one, and what is behind it.
type turn struct {
	phase, far int
	full       bool
	tick       int
	behind     api.State
	routed     bool
}

// turns are steps of each phase, by each action of the plan.
func turns() []turn {
	cancelled := func(phase int) api.State {
		s := of(phase, 0)
		s.Gen = 4
		return s
	}
	return []turn{
		{0, 0, true, 99, of(0, 0), false},
		{1, 0, true, 15, of(2, 0), false}, {1, 0, false, 15, of(1, 0), false},
		{2, 0, true, 99, of(2, 0), false}, {2, 0, false, 99, of(2, 0), false},
		{3, 0, true, 15, switched(of(3, 0), 4, 6, 15), true}, {3, 0, false, 15, of(3, 0), false},
		{3, 1, true, 15, switched(of(3, 1), 4, 5, 15), true}, {3, 1, false, 15, cancelled(3), false},
		{3, 2, true, 15, switched(of(3, 2), 4, 5, 15), true}, {3, 2, false, 15, switched(of(3, 2), 4, 5, 15), true},
		{4, 0, true, 99, of(4, 0), false}, {4, 0, false, 99, of(4, 0), false},
		{5, 0, true, 15, of(5, 0), false}, {5, 0, false, 15, of(5, 0), false},
		{5, 0, true, 16, of(0, 0), false}, {5, 0, false, 16, of(0, 0), false}, {5, 0, true, 99, of(0, 0), false},
		{6, 0, true, 0, switched(of(6, 0), 7, 6, 0), true}, {6, 0, false, 0, of(6, 0), false},
		{6, 1, true, in30, switched(of(6, 1), 7, 5, in30), true}, {6, 1, false, in30, cancelled(6), false},
		{6, 2, true, 1, switched(of(6, 2), 7, 5, 1), true}, {6, 2, false, 1, switched(of(6, 2), 7, 5, 1), true},
		{7, 0, true, 0, of(0, 0), false}, {7, 0, false, 0, of(0, 0), false},
	}
}

// P17.2: a step of each phase and switch, for either slot active, the other one full or not: each action, with all of the reply behind it.
func TestSteps(t *testing.T) {
	for _, c := range turns() {
		for _, turn := range []bool{false, true} {
			s, behind := of(c.phase, c.far), c.behind
			others := s.Want[1]
			if !c.full {
				others--
			}
			if turn {
				s, behind = turned(s), turned(behind)
			}
			route := routed(s)
			if c.routed {
				route = api.Cell{Slot: 1 - s.Active, Gen: behind.Gen}
			}
			x := at(t, s, 3, others, c.tick, 3)
			x.steps(api.OK)
			x.stands(behind, route, view(s.Active, [2]int{4, 3}, [2]int{behind.Want[1-s.Active], min(others, behind.Want[1-s.Active])}), c.tick)
			x.which()
		}
	}
}

// P17.2: the active slot's replicas play no part in a step, not in the switch itself either.
func TestStepsByTheOtherSlot(t *testing.T) {
	for _, c := range turns() {
		for actives := range 5 {
			s := of(c.phase, c.far)
			others := s.Want[1]
			if !c.full {
				others--
			}
			x := at(t, s, actives, others, c.tick, 1)
			x.steps(api.OK)
			if got := x.m.Reply().State; got != c.behind {
				t.Errorf("%s: %+v; want %+v", x.did, got, c.behind)
			}
		}
	}
}

// P17.2: a step ends behind one thing that is done, but for a prepare and a commit: prewarm, and the end of a rollback, need a step each.
func TestStepsOneByOne(t *testing.T) {
	x := begun(t, 1, 2, 1)
	phases := func(l ...int) {
		t.Helper()
		for _, phase := range l {
			x.steps(api.OK)
			if got := x.m.Reply().State.Phase; got != phase {
				t.Fatalf("%s: phase %d; want %d", x.did, got, phase)
			}
		}
	}
	phases(0, 0)
	x.ops(api.Op{Kind: api.KDeploy, Rev: 2, N: 2, Delay: 3})
	phases(1, 1)
	x.fill(1)
	phases(2, 2)
	x.ops(api.Op{Kind: api.KPre, Rev: 2, Pass: true})
	x.ready(1, 1, false)
	phases(3, 3)
	x.ready(1, 1, true)
	x.tick(5)
	phases(4, 4)
	x.tick(7)
	x.ops(api.Op{Kind: api.KPost, Rev: 2, Pass: true})
	phases(0, 0)
	x.ahead(3, 1, 0)
	phases(4)
	x.ops(api.Op{Kind: api.KPost, Rev: 3, Pass: false})
	phases(7, 0, 0)
	x.ahead(3, 1, 0)
	phases(4)
	x.ops(api.Op{Kind: api.KPost, Rev: 3, Pass: true})
	phases(0, 0)
	x.stands(api.State{Rev: [2]int{3, 0}, Want: [2]int{1, 0}, Passed: [2]bool{true, false}, Gen: 4, Flip: 12},
		api.Cell{Slot: 0, Gen: 4}, api.View{Want: [2]int{1, 0}, Ready: [2]int{1, 0}}, 12)
}

// P17.2: the delay, at both ends of what it may be, at the last tick, and over at once if there is none.
func TestDelays(t *testing.T) {
	for _, c := range []struct {
		flip, delay, tick int
		over              bool
	}{
		{0, 0, 0, true}, {5, 0, 5, true}, {5, 1, 5, false}, {5, 1, 6, true}, {5, 3, 7, false}, {5, 3, 8, true},
		{5, 65536, 65540, false}, {5, 65536, 65541, true}, {in30 - 1, 1, in30, true}, {in30 - 1, 2, in30, false},
		{in30, 0, in30, true}, {in30, 1, in30, false}, {0, 65536, in30, true},
	} {
		s, behind := of(api.PDelay, 0), of(api.PStable, 0)
		if !c.over {
			behind = s
		}
		s.Flip, s.Delay, behind.Flip, behind.Delay = c.flip, c.delay, c.flip, c.delay
		x := at(t, s, 4, 6, c.tick, 1)
		x.steps(api.OK)
		x.stands(behind, api.Cell{Slot: 0, Gen: 5}, view(0, [2]int{4, 4}, [2]int{behind.Want[1], behind.Want[1]}), c.tick)
	}
}

// P17.2: what was prepared is cancelled once the other slot isn't full, and prepared again with the same generation.
func TestCancels(t *testing.T) {
	for _, phase := range []int{api.PCutover, api.PRollback} {
		x := at(t, of(phase, api.SReady), 4, 5, 20, 1)
		cancelled := of(phase, api.SNone)
		cancelled.Gen = 4
		v := view(0, [2]int{4, 4}, [2]int{6, 5})
		x.steps(api.OK, api.OFail)
		x.stands(cancelled, api.Cell{Slot: 0, Gen: 4}, v, 20)
		x.steps(api.OK)
		x.stands(cancelled, api.Cell{Slot: 0, Gen: 4}, v, 20)
		x.ready(1, 5, true)
		x.steps(api.ErrRouter)
		x.stands(of(phase, api.SCommit), api.Cell{Slot: 0, Gen: 4}, view(0, [2]int{4, 4}, [2]int{6, 6}), 20)
		x.steps(api.OK)
		x.stands(switched(of(phase, 0), phase+1, 5, 20), api.Cell{Slot: 1, Gen: 5}, view(0, [2]int{4, 4}, [2]int{6, 6}), 20)
	}
}

// P17.2: what isn't told stays committed, and a later step comes back to it, whatever went on between: an abort, a gate, time, and replicas that become unready.
func TestComesBack(t *testing.T) {
	for _, phase := range []int{api.PCutover, api.PRollback} {
		for _, lost := range []bool{false, true} {
			outcome, route := api.OFail, api.Cell{Slot: 0, Gen: 5}
			if lost {
				outcome, route = api.OLost, api.Cell{Slot: 1, Gen: 6}
			}
			committed := of(phase, api.SCommit)
			committed.Gen = 6
			x := at(t, of(phase, api.SNone), 4, 6, 20, 2)
			x.steps(api.ErrRouter, outcome, api.OFail)
			x.stands(committed, route, view(0, [2]int{4, 4}, [2]int{6, 6}), 20)
			for _, o := range []api.Op{
				{Kind: api.KAbort}, {Kind: api.KPre, Rev: 20, Pass: true}, {Kind: api.KPost, Rev: 10, Pass: true}, {Kind: api.KDeploy, Rev: 30, N: 1},
			} {
				if e := x.op(o); e != api.ErrPhase {
					t.Errorf("%s: %d", x.did, e)
				}
			}
			x.tick(3)
			for i := range 6 {
				x.ready(1, i, false)
			}
			x.stands(committed, route, view(0, [2]int{4, 4}, [2]int{6, 0}), 23)
			x.steps(api.ErrRouter, api.OFail, api.OFail, api.OFail)
			x.stands(committed, route, view(0, [2]int{4, 4}, [2]int{6, 0}), 23)
			x.tick(1)
			x.steps(api.OK)
			x.stands(switched(of(phase, 0), phase+1, 6, 24), api.Cell{Slot: 1, Gen: 6}, view(0, [2]int{4, 4}, [2]int{6, 0}), 24)
		}
	}
}

// untold are outcomes that aren't told, the one at place first done, and none ahead of it.
func untold(n, first int) []int {
	var l []int
	for i := range n {
		// Behind the first that is done others fail, too: a route that is set stays.
		if i == first || i > first && i%2 == 0 {
			l = append(l, api.OLost)
		} else {
			l = append(l, api.OFail)
		}
	}
	return l
}

// P17.1, P17.2: fewer outcomes that aren't told than tries, just as many, and more: what the step tells, and those that follow, where the route is told in the end, by each number of tries.
func TestTries(t *testing.T) {
	for tries, most := range most() {
		for n := range 18 {
			for first := range n + 1 {
				x := at(t, of(api.PCutover, api.SNone), 4, 6, 20, tries)
				l := untold(n, first)
				committed := of(api.PCutover, api.SCommit)
				committed.Gen = 6
				v := view(0, [2]int{4, 4}, [2]int{6, 6})
				for call := most; call <= n; call += most {
					route := api.Cell{Slot: 0, Gen: 5}
					if first < call {
						route = api.Cell{Slot: 1, Gen: 6}
					}
					x.steps(api.ErrRouter, l...)
					x.stands(committed, route, v, 20)
					l = nil
				}
				x.steps(api.OK, l...)
				x.stands(switched(of(api.PCutover, 0), api.PPostGate, 6, 20), api.Cell{Slot: 1, Gen: 6}, v, 20)
			}
		}
	}
}

// P17.2: one outcome a call: what comes behind the one that is told is for the next switch.
func TestOutcomesAreUsed(t *testing.T) {
	for _, ack := range []int{api.OAck, math.MinInt, -2, -1, 3, 4, 257, 258, 1<<32 + 1, 1<<32 + 2, math.MaxInt} {
		x := begun(t, 1, 1, 1)
		x.ahead(2, 1, 0)
		x.steps(api.OK, ack, api.OLost, ack, api.OFail)
		x.ops(api.Op{Kind: api.KAbort})
		x.steps(api.ErrRouter)
		if got := x.m.Reply().Cell; got != (api.Cell{Slot: 0, Gen: 2}) {
			t.Errorf("%s: %+v", x.did, got)
		}
		x.steps(api.OK)
		x.steps(api.OK)
		x.ahead(3, 1, 0)
		x.steps(api.ErrRouter)
		if got := x.m.Reply().Cell; got != (api.Cell{Slot: 0, Gen: 2}) {
			t.Errorf("%s: %+v", x.did, got)
		}
		x.steps(api.OK)
		if got := x.m.Reply().Cell; got != (api.Cell{Slot: 1, Gen: 3}) {
			t.Errorf("%s: %+v", x.did, got)
		}
	}
}

// P17.2: outcomes that steps scripted which called no router are used by a later one, in their order, behind those that came before them.
func TestOutcomesWait(t *testing.T) {
	x := begun(t, 1, 1, 1)
	x.steps(api.OK, api.OFail)
	x.ops(api.Op{Kind: api.KDeploy, Rev: 2, N: 1})
	x.steps(api.OK)
	x.fill(1)
	x.steps(api.OK, api.OFail, api.OLost)
	x.steps(api.OK)
	x.ops(api.Op{Kind: api.KPre, Rev: 2, Pass: true})
	for i, gen := range []int{0, 0, 1, 1} {
		x.steps(api.ErrRouter, api.OFail)
		if got := x.m.Reply().Cell.Gen; got != gen {
			t.Fatalf("step %d: generation %d; want %d", i, got, gen)
		}
	}
	// Three are left: each step above scripted one, and used one.
	for range 3 {
		x.steps(api.ErrRouter)
	}
	x.steps(api.OK)
	x.stands(api.State{Phase: 4, Active: 1, Rev: [2]int{1, 2}, Want: [2]int{1, 1}, Passed: [2]bool{true, true}, Gen: 1},
		api.Cell{Slot: 1, Gen: 1}, api.View{Want: [2]int{1, 1}, Ready: [2]int{1, 1}}, 0)
}

// P17.2: an abort takes no outcome away; the next rollout uses it.
func TestOutcomesOutliveAnAbort(t *testing.T) {
	x := begun(t, 1, 1, 3)
	x.ahead(2, 1, 0)
	x.ready(1, 0, false)
	x.steps(api.OK, api.OFail, api.OFail, api.OFail)
	x.ops(api.Op{Kind: api.KAbort})
	x.ahead(2, 1, 0)
	x.steps(api.ErrRouter)
	x.steps(api.OK)
}

// P17.2: the outcomes that are handed in stay as they are, with their spare room, and aren't kept (rule 5); none, nil and an empty list are one.
func TestOutcomesOfTheCaller(t *testing.T) {
	room := []int{api.OFail, api.OLost, api.OFail, 77, 78}
	x := begun(t, 1, 1, 1)
	x.steps(api.OK, room[:2]...)
	x.steps(api.OK, room[2:3]...)
	if !slices.Equal(room, []int{api.OFail, api.OLost, api.OFail, 77, 78}) {
		t.Errorf("the caller's list is %v", room)
	}
	clear(room)
	x.ahead(2, 1, 0)
	x.steps(api.ErrRouter)
	x.steps(api.ErrRouter, []int{}...)
	x.steps(api.ErrRouter, []int(nil)...)
	x.steps(api.OK)
}

// P17.2: a record that can't come: at the greatest generation a switch isn't prepared, ErrOver, and all is as it was; one short of it, it is.
func TestOver(t *testing.T) {
	for _, phase := range []int{api.PCutover, api.PRollback} {
		for _, turn := range []bool{false, true} {
			for gen, told := range map[int]api.Errno{1: 0, in20 - 2: 0, in20 - 1: 0, in20: 9} {
				s := of(phase, api.SNone)
				s.Gen = gen
				if turn {
					s = turned(s)
				}
				v := view(s.Active, [2]int{4, 4}, [2]int{6, 6})
				behind, route := switched(s, phase+1, gen+1, 20), api.Cell{Slot: 1 - s.Active, Gen: gen + 1}
				if told != api.OK {
					behind, route = s, routed(s)
				}
				x := at(t, s, 4, 6, 20, 8)
				x.steps(told)
				x.stands(behind, route, v, 20)
				x.which()
				if told != api.OK {
					x.steps(told, api.OFail)
					x.stands(s, routed(s), v, 20)
				}

				// With the other slot not full, nothing is to be done: no error.
				x = at(t, s, 4, 5, 20, 8)
				x.steps(api.OK)
				x.stands(s, routed(s), view(s.Active, [2]int{4, 4}, [2]int{6, 5}), 20)
			}
		}
	}
}

// P17.2: a switch that is prepared, or committed, with the greatest generation, is done.
func TestGreatestGeneration(t *testing.T) {
	for _, phase := range []int{api.PCutover, api.PRollback} {
		for _, far := range []int{api.SReady, api.SCommit} {
			s := of(phase, far)
			s.Gen = in20
			x := at(t, s, 4, 6, 20, 1)
			x.steps(api.OK)
			x.stands(switched(s, phase+1, in20, 20), api.Cell{Slot: 1, Gen: in20}, view(0, [2]int{4, 4}, [2]int{6, 6}), 20)
		}
	}
}

// P17.2: the last generations: a deploy leaves room for the switch and for the way back, and there is none behind them.
func TestLastRollout(t *testing.T) {
	s := of(api.PStable, 0)
	s.Gen = in20 - 2
	x := at(t, s, 4, 0, 0, 1)
	x.ahead(30, 2, 0)
	x.steps(api.OK)
	x.ops(api.Op{Kind: api.KAbort})
	x.steps(api.OK)
	x.steps(api.OK)
	s.Gen, s.Delay, s.Flip = in20, 0, 0
	x.stands(s, api.Cell{Slot: 0, Gen: in20}, view(0, [2]int{4, 4}, [2]int{0, 0}), 0)
	if e := x.op(api.Op{Kind: api.KDeploy, Rev: 30, N: 2}); e != api.ErrOver {
		t.Errorf("a deploy behind the last generation: %d", e)
	}
}

// P17.2: Ready of slots and replicas that there aren't, and of ones that aren't wanted, in each phase: false, and nothing changes.
func TestReadyOfNone(t *testing.T) {
	strange := []int{math.MinInt, -1 << 32, -1<<32 + 1, -2, -1, 2, 3, 32, 255, 256, 257, 1 << 32, 1<<32 + 1, math.MaxInt}
	for _, s := range situations() {
		x := at(t, s, 2, s.Want[1]/2, 3, 1)
		was := x.m.Reply()
		for _, ready := range []bool{true, false} {
			for _, slot := range strange {
				for _, i := range []int{-1, 0, 1, 5, 31} {
					if x.m.Ready(slot, i, ready) {
						t.Errorf("Ready(%d, %d, %t) of %+v: true", slot, i, ready, s)
					}
				}
			}
			for slot, n := range s.Want {
				for _, i := range []int{math.MinInt, -1 << 32, -32, -1, n, n + 1, 31, 32, 33, 256, 1 << 32, math.MaxInt} {
					if x.ready(slot, i, ready) {
						t.Errorf("Ready(%d, %d, %t) of %+v: true", slot, i, ready, s)
					}
				}
			}
		}
		if got := x.m.Reply(); got != was {
			t.Errorf("%+v; it was %+v", got, was)
		}
		x.which()
	}
}

// P17.2: Ready of wanted ones, once and again, ready and not: true, and that one of that slot alone.
func TestReady(t *testing.T) {
	for _, s := range situations() {
		x := at(t, s, 0, 0, 3, 1)
		for slot, n := range s.Want {
			for i := range n {
				for k, ready := range []bool{false, true, true, false, false, true} {
					if !x.ready(slot, i, ready) {
						t.Errorf("%s: false", x.did)
					}
					want := i
					if ready {
						want++
					}
					if got := x.m.Reply().View.Ready[slot]; got != want {
						t.Errorf("call %d of %d of slot %d: %d ready; want %d", k, i, slot, got, want)
					}
				}
			}
		}
		x.stands(s, routed(s), api.View{Want: s.Want, Ready: s.Want}, 3)
	}
}

// P17.2: Tick of 0, below 0, the least and the greatest number, and at the tick's end; nothing but the tick changes.
func TestTick(t *testing.T) {
	for _, c := range [][3]int{
		{0, 0, 0}, {0, 1, 1}, {0, -1, 0}, {0, math.MinInt, 0}, {0, math.MaxInt, in30}, {0, in30 - 1, in30 - 1}, {0, in30, in30}, {0, in30 + 1, in30},
		{5, 0, 5}, {5, 3, 8}, {5, -3, 5}, {5, -5, 5}, {5, -6, 5}, {5, math.MinInt, 5}, {5, math.MinInt + 1, 5}, {5, math.MaxInt, in30}, {5, math.MaxInt - 5, in30},
		{5, in30 - 6, in30 - 1}, {5, in30 - 5, in30}, {5, in30 - 4, in30}, {5, 1 << 32, in30}, {5, 1<<32 + 1, in30}, {5, -1 << 32, 5}, {5, -1<<32 + 1, 5},
		{in30 - 1, 0, in30 - 1}, {in30 - 1, 1, in30}, {in30 - 1, 2, in30}, {in30 - 1, -1, in30 - 1}, {in30 - 1, math.MaxInt, in30},
		{in30, 0, in30}, {in30, 1, in30}, {in30, -1, in30}, {in30, math.MinInt, in30}, {in30, math.MaxInt, in30}, {in30, in30, in30},
	} {
		for _, s := range situations() {
			x := at(t, s, 2, s.Want[1], c[0], 1)
			x.tick(c[1])
			x.stands(s, routed(s), view(0, [2]int{4, 2}, [2]int{s.Want[1], s.Want[1]}), c[2])
		}
	}
}

// P17.2: a switch at the last tick has it as its Flip; a delay then is never over, but an abort leads back.
func TestLastTick(t *testing.T) {
	x := begun(t, 1, 1, 1)
	x.ahead(2, 1, 1)
	x.tick(in30 - 1)
	x.tick(math.MaxInt)
	x.steps(api.OK)
	x.ops(api.Op{Kind: api.KPost, Rev: 2, Pass: true})
	x.tick(5)
	x.steps(api.OK)
	waits := api.State{Phase: 5, Active: 1, Rev: [2]int{1, 2}, Want: [2]int{1, 1}, Passed: [2]bool{true, true}, Delay: 1, Gen: 1, Flip: in30}
	x.stands(waits, api.Cell{Slot: 1, Gen: 1}, api.View{Want: [2]int{1, 1}, Ready: [2]int{1, 1}}, in30)
	x.ops(api.Op{Kind: api.KAbort})
	x.steps(api.OK)
	x.stands(switched(waits, 7, 2, in30), api.Cell{Slot: 0, Gen: 2}, api.View{Want: [2]int{1, 1}, Ready: [2]int{1, 1}}, in30)
}

// P17.3: each field of the reply, as the calls change it; looked at twice it is the same; Up is true and Err OK behind what was refused, too.
func TestReply(t *testing.T) {
	x := begun(t, 7, 3, 1)
	want := api.Reply{
		Err: 0, State: api.State{Rev: [2]int{7, 0}, Want: [2]int{3, 0}, Passed: [2]bool{true, false}},
		View: api.View{Want: [2]int{3, 0}, Ready: [2]int{3, 0}}, Up: true,
	}
	stands := func() {
		t.Helper()
		for range 2 {
			if got := x.m.Reply(); got != want {
				t.Fatalf("%s: %+v; want %+v", x.did, got, want)
			}
		}
	}
	stands()
	x.tick(4)
	want.Tick = 4
	stands()
	x.ready(0, 1, false)
	want.View.Ready[0] = 2
	stands()
	x.op(api.Op{Kind: api.KAbort})
	stands()
	x.ops(api.Op{Kind: api.KDeploy, Rev: 8, N: 2, Delay: 6})
	want.State.Phase, want.State.Rev[1], want.State.Want[1], want.State.Delay = 1, 8, 2, 6
	want.View.Want[1] = 2
	stands()
	x.fill(1)
	want.View.Ready[1] = 2
	stands()
	x.steps(api.OK)
	want.State.Phase = 2
	stands()
	x.ops(api.Op{Kind: api.KPre, Rev: 8, Pass: true})
	want.State.Phase, want.State.Passed[1] = 3, true
	stands()
	x.steps(api.ErrRouter, api.OFail)
	want.State.Gen, want.State.Switch = 1, 2
	stands()
	x.steps(api.ErrRouter, api.OLost)
	want.Cell = api.Cell{Slot: 1, Gen: 1}
	stands()
	x.steps(api.OK)
	want.State.Phase, want.State.Active, want.State.Switch, want.State.Flip = 4, 1, 0, 4
	stands()
	x.ops(api.Op{Kind: api.KPost, Rev: 8, Pass: true})
	want.State.Phase = 5
	stands()
	x.tick(6)
	want.Tick = 10
	stands()
	x.steps(api.OK)
	want.State.Phase, want.State.Rev[0], want.State.Want[0], want.State.Passed[0] = 0, 0, 0, false
	want.View.Want[0], want.View.Ready[0] = 0, 0
	stands()
}

// P17.4: an abort ahead of a commit leaves the route, and no step behind it changes that, ready replicas or not.
func TestAbortLeavesTheRoute(t *testing.T) {
	for _, s := range []api.State{of(1, 0), of(2, 0), of(3, 0)} {
		for _, turn := range []bool{false, true} {
			if turn {
				s = turned(s)
			}
			for others := range 7 {
				x := at(t, s, 4, others, 20, 1)
				route := routed(s)
				x.ops(api.Op{Kind: api.KAbort})
				for range 4 {
					if got := x.m.Reply(); got.Cell != route || got.State.Phase != api.PStable || got.State.Active != route.Slot {
						t.Errorf("%s: %+v; the route was %+v", x.did, got, route)
					}
					x.fill(0)
					x.fill(1)
					x.steps(api.OK)
				}
			}
		}
	}
}
