package recover

import (
	"fmt"
	"math"
	"slices"
	"testing"

	"switchback/api"
)

// cut is what a crash leaves of a write that isn't flushed.
type cut struct {
	keep uint64
	torn int
}

// cuts are: nothing; nothing of what is kept; a part of the head, of the sum, of the payload; all.
func cuts() []cut {
	return []cut{{0, 128}, {1, 0}, {1, 1}, {1, 6}, {1, 13}, {1, 15}, {1, 16}, {1, 127}, {math.MaxUint64, 128}}
}

// few are: nothing, a part, all.
func few() []cut { return []cut{{0, 128}, {1, 14}, {1, 128}} }

// scene is where a switch begins: a state, a disk of so many sectors, whether it is compacted first, and what comes of the router's calls.
type scene struct {
	s         api.State
	sectors   int
	compacted bool
	outcomes  []int
}

func (c scene) begin(t *testing.T) *pair {
	t.Helper()
	x := from(t, c.s, c.sectors)
	if c.compacted && x.compact() != api.OK {
		x.fail("the compaction ahead")
	}
	x.comes(c.outcomes...)
	return x
}

// gen is the switch's.
func (c scene) gen() int { return c.s.Gen + 1 }

// turn makes the switch, as a controller does that compacts its log when there is no room; it ends at the first call that isn't told OK.
func (c scene) turn(x *pair, tick int) api.Errno {
	x.t.Helper()
	for _, act := range []func() api.Errno{
		func() api.Errno { return x.put(api.Rec{Kind: 5, Gen: c.gen()}) },
		func() api.Errno { return x.put(api.Rec{Kind: 6, Gen: c.gen()}) },
		func() api.Errno { return x.set(3) },
		func() api.Errno { return x.put(api.Rec{Kind: 8, Gen: c.gen(), Tick: tick}) },
	} {
		if x.l.Room() == 0 {
			if e := x.compact(); e != api.OK {
				return e
			}
		}
		if e := act(); e != api.OK {
			return e
		}
	}
	return api.OK
}

// calls are how many of the disk and the router it needs.
func (c scene) calls(t *testing.T) int {
	t.Helper()
	x := c.begin(t)
	count := x.f.Count()
	if e := c.turn(x, 1); e != api.OK {
		x.fail("a switch: %d", e)
	}
	return x.f.Count() - count
}

// lasts tells whether a commit of the switch lasts: its record, or a state that has it, or the one behind it.
func (c scene) lasts(x *pair) bool {
	x.t.Helper()
	for _, b := range x.records() {
		l, _ := numbersIn(b)
		if l[0] == 6 || l[0] == 11 && (l[11] == 2 || l[2] != c.s.Active) {
			return true
		}
	}
	return false
}

// found complains unless the state, and the route, are those ahead of the switch, or, if its commit lasted, those behind it, at one of these ticks.
func (c scene) found(x *pair, lasted bool, ticks ...int) {
	x.t.Helper()
	s, want, route := x.l.State(), c.s, api.Cell{Slot: c.s.Active, Gen: c.s.Gen}
	if lasted {
		want.Gen++
		want = switched(want, s.Flip)
		route = api.Cell{Slot: want.Active, Gen: want.Gen}
		if !slices.Contains(ticks, s.Flip) {
			x.fail("tick %d; want one of %d", s.Flip, ticks)
		}
	}
	if s != want || x.r.Cell() != route {
		x.fail("%+v, %+v; want %+v, %+v", s, x.r.Cell(), want, route)
	}
}

// goesOn complains unless the switch can be made if it wasn't, and the log takes what comes behind it.
func (c scene) goesOn(x *pair, lasted bool) {
	x.t.Helper()
	if !lasted {
		if e := c.turn(x, 4); e != api.OK {
			x.fail("the switch, made again: %d", e)
		}
		c.found(x, true, 4)
	}
	if x.compact() != api.OK {
		x.fail("a compaction")
	}
	next := api.Rec{Kind: 10}
	if x.l.State().Phase == 4 {
		next = api.Rec{Kind: 2}
	}
	x.puts(next)
	want := x.l.State()
	x.crash(0, 0)
	x.opens(c.s, 1, 0)
	if x.l.State() != want {
		x.fail("%+v; want %+v", x.l.State(), want)
	}
}

// scenes are those whose records have room, or fill the log at each of a switch's records.
func scenes(outcomes ...int) []scene {
	var l []scene
	for _, s := range []api.State{of(3, 0), turned(of(6, 0))} {
		for _, sectors := range []int{6, 8, 10} {
			for _, compacted := range []bool{false, true} {
				l = append(l, scene{s, sectors, compacted, outcomes})
			}
		}
	}
	return l
}

// P18.3: a crash at each call of a switch, the unflushed write lost, torn and kept: the state, and the route, are those ahead of it if its commit didn't last, and else those behind it; it goes on from there.
func TestCrashInSwitch(t *testing.T) {
	seen := map[string]int{}
	for _, outcomes := range [][]int{nil, {api.OLost}, {api.OFail, api.OLost}, {api.OFail, api.OFail}} {
		for _, c := range append(scenes(outcomes...), scene{of(3, 0), 12, false, outcomes}) {
			calls := c.calls(t)
			for n := range calls + 1 {
				for _, cut := range cuts() {
					x := c.begin(t)
					x.arm(n)
					e := c.turn(x, 1)
					if e != map[bool]api.Errno{true: api.OK, false: api.ErrHalt}[n == calls] {
						x.fail("with %d of %d calls: %d", n, calls, e)
					}
					told := x.l.State()
					x.crash(cut.keep, cut.torn)
					lasted := c.lasts(x)
					if (told.Switch == 2 || told.Active != c.s.Active) && !lasted || n == 0 && lasted {
						x.fail("%+v was told; the commit lasts: %t", told, lasted)
					}
					x.opens(c.s, 3, 2)
					c.found(x, lasted, 1, 2)
					c.goesOn(x, lasted)
					seen[fmt.Sprintf("told %d, lasted %t", told.Switch, lasted)]++
				}
			}
		}
	}
	for _, what := range []string{"told 0, lasted false", "told 0, lasted true", "told 1, lasted false", "told 1, lasted true", "told 2, lasted true"} {
		if seen[what] < 30 {
			t.Errorf("%s: %d times", what, seen[what])
		}
	}
}

// P18.3: a crash at each call of an Open, behind one at each call of a switch: it comes to the same.
func TestCrashInOpen(t *testing.T) {
	halted, lastedAt := 0, map[bool]int{}
	for _, c := range scenes() {
		for n := range c.calls(t) + 1 {
			for _, first := range few() {
				for m, done := 0, false; !done; m++ {
					for _, second := range few() {
						x := c.begin(t)
						x.arm(n)
						c.turn(x, 1)
						x.crash(first.keep, first.torn)
						lasted := c.lasts(x)
						x.arm(m)
						done = x.open(c.s, 3, 2) == api.OK
						if done {
							c.found(x, lasted, 1, 2)
						} else {
							halted++
						}
						x.crash(second.keep, second.torn)
						x.opens(c.s, 3, 3)
						c.found(x, lasted, 1, 2, 3)
						lastedAt[lasted]++
					}
				}
			}
		}
	}
	if halted < 1000 || lastedAt[true] < 1000 || lastedAt[false] < 1000 {
		t.Errorf("%d halted, %v", halted, lastedAt)
	}
}

// P18.3: an Open of a fresh disk with a crash at each of its calls, done again.
func TestCrashInFirstOpen(t *testing.T) {
	for n := range 3 {
		for _, cut := range cuts() {
			x := begun(t, 128, 8)
			x.arm(n)
			if e := x.open(one(), 1, 0); (e == api.OK) != (n == 2) {
				x.fail("with %d calls: %d", n, e)
			}
			x.crash(cut.keep, cut.torn)
			x.opens(one(), 1, 0)
			x.stands(one(), 3)
			x.holds()
			x.puts(rollout()[:3]...)
		}
	}
}

// P18.3: an Open that failed for the power, and without a crash, is done again: it comes to the same.
func TestOpenAgainWithPower(t *testing.T) {
	halted := 0
	for _, s := range append(halfway(1), halfway(2)...) {
		c := scene{s: s}
		c.s.Gen, c.s.Switch = s.Gen-1, 0
		for n := 6; n <= 16; n++ {
			for m, done := 0, false; !done; m++ {
				x := from(t, s, n)
				x.arm(m)
				done = x.open(c.s, 3, 2) == api.OK
				for !done && x.f.Blown() {
					halted++
					if e := x.open(c.s, 3, 2); e != api.ErrHalt {
						x.fail("without power: %d", e)
					}
					x.reset()
				}
				x.opens(c.s, 3, 3)
				c.found(x, s.Switch == 2, 2, 3)
			}
		}
	}
	if halted < 100 {
		t.Errorf("%d halted", halted)
	}
}

// P18.3: an Open that failed for the router is done again, and once more: it comes to the same; so it does with a crash and a cut between them.
func TestOpenAgainWithRouter(t *testing.T) {
	for _, s := range halfway(2) {
		c := scene{s: s}
		c.s.Gen, c.s.Switch = s.Gen-1, 0
		for _, n := range []int{6, 8, 12} {
			for fails := 1; fails <= 4; fails++ {
				for last := range 3 {
					x := committed(t, s, n)
					x.comes(append(slices.Repeat([]int{api.OFail}, 2*fails-1), last)...)
					for range fails - 1 {
						if e := x.open(c.s, 2, 7); e != api.ErrRouter || x.r.Cell().Gen != c.s.Gen {
							x.fail("%d, %+v", e, x.r.Cell())
						}
						x.holds([]int{5, s.Gen}, []int{6, s.Gen})
					}
					x.arm(1)
					if e := x.open(c.s, 2, 7); e != api.ErrHalt {
						x.fail("%d", e)
					}
					x.crash(math.MaxUint64, 20)
					for x.open(c.s, 2, 8) == api.ErrRouter {
					}
					c.found(x, true, 8)
					x.opens(c.s, 2, 9)
					c.found(x, true, 8)
				}
			}
		}
	}
}

// P18.3: a switch of which only the KPrepare lasted, and one whose KCommit lasted, without a crash; the generation of the first is free again.
func TestPrepareAndCommit(t *testing.T) {
	for _, s := range []api.State{of(3, 0), of(6, 0), turned(of(3, 0)), turned(of(6, 0))} {
		c := scene{s: s}
		x := from(t, s, 40)
		for range 4 {
			x.puts(api.Rec{Kind: 5, Gen: 6})
			x.opens(s, 1, 3)
			c.found(x, false)
			if x.r.Writes() != 1 {
				x.fail("%d writes", x.r.Writes())
			}
		}
		x.puts(api.Rec{Kind: 5, Gen: 6}, api.Rec{Kind: 6, Gen: 6})
		x.opens(s, 1, 3)
		c.found(x, true, 3)
		if x.r.Writes() != 2 {
			x.fail("%d writes", x.r.Writes())
		}
	}
}

// P18.3: a log opened twice, with and without a compaction in between: the same state; without one nothing is written, and the router isn't called again.
func TestOpenTwice(t *testing.T) {
	for _, s := range states() {
		for _, compacted := range []bool{false, true} {
			x := from(t, s, 14)
			first := s
			if s.Switch != 0 {
				first.Gen, first.Switch = s.Gen-1, 0
			}
			x.opens(first, 2, 6)
			want, room := first, 6-s.Switch
			if s.Switch == 1 {
				room = 4
			}
			if s.Switch == 2 {
				want, room = switched(s, 6), 3
			}
			x.stands(want, room)
			if compacted {
				if e := x.compact(); e != api.OK {
					x.fail("%d", e)
				}
				room = 5
			}
			x.arm(0)
			for now := range 3 {
				x.refused(api.OK, func() api.Errno { return x.open(first, 2, now) })
				x.stands(want, room)
			}
			if x.f.Blown() {
				x.fail("something was called")
			}
		}
	}
}

// P18.3: whole rollouts with a crash behind each record, each Open with a first state that is the same.
func TestCrashBehindEachRecord(t *testing.T) {
	for _, sectors := range []int{6, 8, 9, 12, 20, 30} {
		x := begun(t, 128, sectors)
		x.opens(one(), 2, 0)
		rev := 1
		for round := range 6 {
			rev++
			gen := x.l.State().Gen + 1
			for _, r := range []api.Rec{
				{Kind: 1, Rev: rev, N: 1 + round, Delay: round}, {Kind: 3}, {Kind: 4, Pass: true}, {Kind: 5, Gen: gen}, {Kind: 6, Gen: gen},
				{Kind: 9, Pass: round%2 == 0}, {Kind: 2}, {Kind: 5, Gen: gen + 1}, {Kind: 6, Gen: gen + 1}, {Kind: 10},
			} {
				if _, ok := after(x.l.State(), r); !ok {
					if r.Kind == 5 || r.Kind == 6 {
						x.fail("kind %d can't come", r.Kind)
					}
					continue
				}
				if x.l.Room() == 0 && x.compact() != api.OK {
					x.fail("a compaction")
				}
				x.puts(r)
				want := x.l.State()
				if r.Kind == 5 {
					continue
				}
				if r.Kind == 6 {
					want = switched(want, round)
				}
				x.crash(0, 0)
				x.opens(one(), 2, round)
				if x.l.State() != want || x.r.Cell() != (api.Cell{Slot: want.Active, Gen: want.Gen}) {
					x.fail("%+v, %+v; want %+v", x.l.State(), x.r.Cell(), want)
				}
			}
			if s := x.l.State(); s.Phase != 0 || s.Active != 0 {
				x.fail("the rollout's end: %+v", s)
			}
		}
	}
}
