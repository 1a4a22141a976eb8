package router

import (
	"fmt"
	"math"
	"slices"
	"testing"

	"switchback/api"
	"switchback/fuse"
)

// look complains if a router isn't as it should be. Asking is done twice, as it may change nothing.
func look(t *testing.T, r *Router, what string, slot, gen, writes int) {
	t.Helper()
	want := api.Cell{Slot: slot, Gen: gen}
	for range 2 {
		if r.Cell() != want || r.Writes() != writes {
			t.Errorf("%s: %+v, set %d times; want %+v, %d", what, r.Cell(), r.Writes(), want, writes)
		}
	}
}

// tells complains unless a call tells this.
func tells(t *testing.T, r *Router, what string, gen, slot int, want api.Errno) {
	t.Helper()
	if e := r.Call(gen, slot); e != want {
		t.Errorf("%s: Call(%d, %d): %d; want %d", what, gen, slot, e, want)
	}
}

// counts complains unless so many calls were borne, and the fuse is blown or not.
func counts(t *testing.T, f *fuse.Fuse, what string, want int, blown bool) {
	t.Helper()
	if f.Count() != want || f.Blown() != blown {
		t.Errorf("%s: the fuse bore %d, blown %t; want %d, %t", what, f.Count(), f.Blown(), want, blown)
	}
}

// others are numbers that are no outcome: they count as OAck.
func others() []int {
	return []int{math.MinInt, math.MinInt32, -3, -2, -1, 3, 4, 7, 257, 258, 1 << 32, 1<<32 + 1, 1<<32 + 2, math.MaxInt}
}

// at is a router whose route is so, set by one call, with its fuse.
func at(t *testing.T, gen, slot int) (*Router, *fuse.Fuse) {
	t.Helper()
	f := fuse.New()
	r := New(f)
	tells(t, r, "the first call", gen, slot, api.OK)
	look(t, r, "the first call", slot, gen, 1)
	return r, f
}

// The document's example.
func TestExample(t *testing.T) {
	f := fuse.New()
	r := New(f)
	r.Script(api.OLost)
	tells(t, r, "lost", 1, 1, api.ErrRouter)
	look(t, r, "lost", 1, 1, 1)
	tells(t, r, "again", 1, 1, api.OK)
	look(t, r, "again", 1, 1, 1)
	tells(t, r, "the other slot", 1, 0, api.ErrStale)
	look(t, r, "the other slot", 1, 1, 1)
	counts(t, f, "example", 3, false)
}

// P11.1, New: slot 0, of generation 0, and no writes; the fuse is left as it is.
func TestNew(t *testing.T) {
	f := fuse.New()
	f.Spend()
	f.Arm(1)
	r := New(f)
	look(t, r, "new", 0, 0, 0)
	counts(t, f, "new", 1, false)
	tells(t, r, "the one that is borne", 1, 0, api.OK)
	look(t, r, "the one that is borne", 0, 1, 1)
	tells(t, r, "one too many", 2, 1, api.ErrHalt)
	look(t, r, "one too many", 0, 1, 1)
	counts(t, f, "one too many", 2, true)
}

// P11.1, New: of a fuse that is blown already.
func TestNewBehindABlownFuse(t *testing.T) {
	f := fuse.New()
	f.Arm(0)
	f.Spend()
	r := New(f)
	look(t, r, "blown", 0, 0, 0)
	tells(t, r, "blown", 1, 1, api.ErrHalt)
	look(t, r, "blown", 0, 0, 0)
	f.Reset()
	tells(t, r, "reset", 1, 1, api.OK)
	look(t, r, "reset", 1, 1, 1)
}

// P11.1, New: each is one of its own, two of one fuse too, which counts the calls of both.
func TestNewIsAnother(t *testing.T) {
	f := fuse.New()
	one, two := New(f), New(f)
	one.Script(api.OFail)
	tells(t, two, "two", 3, 1, api.OK)
	look(t, one, "one", 0, 0, 0)
	tells(t, one, "one", 3, 1, api.ErrRouter)
	look(t, two, "two", 1, 3, 1)
	counts(t, f, "both", 2, false)
	f.Arm(1)
	tells(t, one, "one", 4, 1, api.OK)
	tells(t, two, "two", 4, 0, api.ErrHalt)
	look(t, one, "one", 1, 4, 1)
	look(t, two, "two", 1, 3, 1)
	look(t, New(fuse.New()), "a later one", 0, 0, 0)
}

// come complains unless the next calls use these outcomes, and behind them none is scripted. Each call is of a generation that no call had before.
func come(t *testing.T, r *Router, what string, outcomes ...int) {
	t.Helper()
	gen := r.Cell().Gen
	for i, o := range append(slices.Clone(outcomes), api.OAck, api.OAck) {
		cell, writes, want := r.Cell(), r.Writes(), api.OK
		gen++
		if o == api.OLost || o == api.OFail {
			want = api.ErrRouter
		}
		if o != api.OFail {
			cell, writes = api.Cell{Slot: gen % 2, Gen: gen}, writes+1
		}
		name := fmt.Sprintf("%s: call %d, outcome %d", what, i, o)
		tells(t, r, name, gen, gen%2, want)
		look(t, r, name, cell.Slot, cell.Gen, writes)
	}
}

// P11.1, Script: of no outcome, of one and of several; each comes to one call, in order.
func TestScript(t *testing.T) {
	for _, outcomes := range [][]int{
		nil, {}, {api.OAck}, {api.OLost}, {api.OFail}, {9},
		{api.OFail, api.OFail, api.OFail}, {api.OLost, api.OLost},
		{api.OFail, api.OLost, api.OAck}, {api.OAck, api.OLost, api.OFail}, {api.OLost, 3, api.OFail, -1, api.OLost},
	} {
		f := fuse.New()
		r := New(f)
		r.Script(outcomes...)
		look(t, r, "scripted", 0, 0, 0)
		counts(t, f, "scripted", 0, false)
		come(t, r, fmt.Sprint(outcomes), outcomes...)
		counts(t, f, "called", len(outcomes)+2, false)
	}
	r := New(fuse.New())
	r.Script()
	come(t, r, "without any")
}

// P11.1, Script: again, behind outcomes that didn't come yet, and behind all of them.
func TestScriptAgain(t *testing.T) {
	r := New(fuse.New())
	r.Script(api.OFail, api.OLost)
	r.Script()
	r.Script(api.OAck)
	r.Script(api.OLost, api.OFail)
	come(t, r, "four in a row", api.OFail, api.OLost, api.OAck, api.OLost, api.OFail)
	r.Script(api.OFail, api.OLost, api.OFail)
	tells(t, r, "the first", 20, 1, api.ErrRouter)
	look(t, r, "the first", 1, 7, 5)
	tells(t, r, "the second", 20, 1, api.ErrRouter)
	look(t, r, "the second", 1, 20, 6)
	r.Script(api.OAck, api.OLost)
	come(t, r, "one is left", api.OFail, api.OAck, api.OLost)
	r.Script(api.OLost)
	come(t, r, "none was left", api.OLost)
}

// P11.1, Script: many at once, and many one by one with calls between.
func TestScriptOfMany(t *testing.T) {
	var outcomes []int
	for i := range 3000 {
		outcomes = append(outcomes, i*i%7%3)
	}
	r := New(fuse.New())
	r.Script(outcomes...)
	come(t, r, "at once", outcomes...)

	r = New(fuse.New())
	called, gen := 0, 0
	for i, o := range outcomes {
		r.Script(o)
		if i%3 == 0 {
			continue
		}
		before := r.Writes()
		gen++
		e := r.Call(gen, 0)
		if told := outcomes[called]; (e == api.OK) != (told == api.OAck) || (r.Writes() == before) != (told == api.OFail) {
			t.Fatalf("call %d: %d, %d writes behind %d; outcome %d", called, e, r.Writes(), before, told)
		}
		called++
	}
	come(t, r, "the rest", outcomes[called:]...)
}

// Rule 5: the list that is handed in stays as it is, its spare room too, and isn't kept.
func TestMemory(t *testing.T) {
	room := []int{api.OFail, api.OLost, 77, 78, 79}
	r := New(fuse.New())
	r.Script(room[:2]...)
	r.Script(api.OAck, api.OFail)
	if want := []int{api.OFail, api.OLost, 77, 78, 79}; !slices.Equal(room, want) {
		t.Errorf("the list is %v; want %v", room, want)
	}
	for i := range room {
		room[i] = api.OAck
	}
	come(t, r, "changed behind the call", api.OFail, api.OLost, api.OAck, api.OFail)
}

// P11.2, Call: numbers within and without their ranges; those without do nothing, use no outcome, and aren't counted.
func TestRange(t *testing.T) {
	slots := map[int]bool{0: true, 1: true}
	for _, n := range []int{math.MinInt, math.MinInt32, -2, -1, 2, 3, 256, 1 << 32, 1<<32 + 1, math.MaxInt} {
		slots[n] = false
	}
	gens := map[int]bool{1: true, 2: true, 1 << 16: true, 1<<20 - 1: true, 1 << 20: true}
	for _, n := range []int{math.MinInt, math.MinInt32, -(1 << 20), -2, -1, 0, 1<<20 + 1, 1 << 21, 1 << 32, 1<<32 + 1, math.MaxInt} {
		gens[n] = false
	}
	for slot, slotIn := range slots {
		for gen, genIn := range gens {
			f := fuse.New()
			r := New(f)
			r.Script(api.OLost)
			what := fmt.Sprintf("Call(%d, %d)", gen, slot)
			if slotIn && genIn {
				tells(t, r, what, gen, slot, api.ErrRouter)
				look(t, r, what, slot, gen, 1)
				tells(t, r, what, gen, slot, api.OK)
				look(t, r, what, slot, gen, 1)
				counts(t, f, what, 2, false)
				continue
			}
			tells(t, r, what, gen, slot, api.ErrRange)
			look(t, r, what, 0, 0, 0)
			counts(t, f, what, 0, false)
			come(t, r, what+", then others", api.OLost)
		}
	}
}

// P11.2, Call: out of range stands ahead of what the fuse doesn't bear, and doesn't blow it.
func TestRangeAheadOfHalt(t *testing.T) {
	f := fuse.New()
	r := New(f)
	f.Arm(0)
	for _, x := range [][2]int{{0, 0}, {api.MaxGen + 1, 1}, {1, 2}, {1, -1}, {-1, -1}} {
		tells(t, r, "armed with 0", x[0], x[1], api.ErrRange)
		counts(t, f, "armed with 0", 0, false)
	}
	tells(t, r, "armed with 0", 1, 1, api.ErrHalt)
	counts(t, f, "armed with 0", 0, true)
	tells(t, r, "blown", 0, 1, api.ErrRange)
	tells(t, r, "blown", 1, 2, api.ErrRange)
	look(t, r, "blown", 0, 0, 0)
}

// P11.2, Call: what the fuse doesn't bear isn't done and uses no outcome, whichever is next; reset or armed anew, the outcomes come.
func TestHalt(t *testing.T) {
	for _, o := range append(others(), api.OAck, api.OLost, api.OFail) {
		for _, again := range []func(f *fuse.Fuse){
			func(f *fuse.Fuse) { f.Reset() },
			func(f *fuse.Fuse) { f.Arm(5) },
		} {
			r, f := at(t, 3, 1)
			r.Script(o, api.OLost, api.OFail)
			f.Arm(0)
			what := fmt.Sprintf("outcome %d is next", o)
			for _, x := range [][2]int{{4, 0}, {3, 1}, {3, 0}, {2, 1}, {api.MaxGen, 1}} {
				tells(t, r, what, x[0], x[1], api.ErrHalt)
				look(t, r, what, 1, 3, 1)
				counts(t, f, what, 1, true)
			}
			again(f)
			come(t, r, what+", then borne", o, api.OLost, api.OFail)
			counts(t, f, what+", then borne", 6, false)
		}
	}
}

// P11.2, Call: the fuse bears just as many as it is armed with, those that fail and are stale too.
func TestEachCallIsCounted(t *testing.T) {
	r, f := at(t, 3, 1)
	r.Script(api.OFail, api.OLost)
	f.Arm(5)
	tells(t, r, "fails", 4, 0, api.ErrRouter)
	tells(t, r, "is lost", 3, 1, api.ErrRouter)
	tells(t, r, "is done again", 3, 1, api.OK)
	tells(t, r, "is stale", 3, 0, api.ErrStale)
	tells(t, r, "sets", 4, 0, api.OK)
	counts(t, f, "five", 6, false)
	look(t, r, "five", 0, 4, 2)
	tells(t, r, "the sixth", 5, 1, api.ErrHalt)
	counts(t, f, "the sixth", 6, true)
	f.Arm(1)
	tells(t, r, "armed anew", 5, 1, api.OK)
	tells(t, r, "one too many", 6, 0, api.ErrHalt)
	look(t, r, "one too many", 1, 5, 3)
	f.Reset()
	tells(t, r, "reset", 6, 0, api.OK)
	counts(t, f, "reset", 8, false)
	look(t, r, "reset", 0, 6, 4)
}

// P11.2, Call: each outcome, with generations above, at and below the route's, of its slot and of the other.
func TestOutcomes(t *testing.T) {
	for _, route := range []struct{ gen, slot int }{
		{2, 0}, {2, 1}, {1000, 0}, {1000, 1}, {api.MaxGen - 1, 0}, {api.MaxGen - 1, 1},
	} {
		own, other := route.slot, 1-route.slot
		for _, x := range []struct {
			gen, slot int
			sets      bool
			told      api.Errno
		}{
			{route.gen + 1, own, true, api.OK}, {route.gen + 1, other, true, api.OK},
			{api.MaxGen, own, true, api.OK}, {api.MaxGen, other, true, api.OK},
			{route.gen, own, false, api.OK}, {route.gen, other, false, api.ErrStale},
			{route.gen - 1, own, false, api.ErrStale}, {route.gen - 1, other, false, api.ErrStale},
			{1, own, false, api.ErrStale}, {1, other, false, api.ErrStale},
		} {
			behind, writes := route, 1
			if x.sets {
				behind.gen, behind.slot, writes = x.gen, x.slot, 2
			}
			for _, o := range append(others(), api.OAck) {
				r, f := at(t, route.gen, route.slot)
				r.Script(o)
				what := fmt.Sprintf("route %v, outcome %d", route, o)
				tells(t, r, what, x.gen, x.slot, x.told)
				look(t, r, what, behind.slot, behind.gen, writes)
				counts(t, f, what, 2, false)
			}
			r, f := at(t, route.gen, route.slot)
			tells(t, r, "none scripted", x.gen, x.slot, x.told)
			look(t, r, "none scripted", behind.slot, behind.gen, writes)
			counts(t, f, "none scripted", 2, false)

			r, f = at(t, route.gen, route.slot)
			r.Script(api.OLost)
			tells(t, r, "lost", x.gen, x.slot, api.ErrRouter)
			look(t, r, "lost", behind.slot, behind.gen, writes)
			counts(t, f, "lost", 2, false)

			r, f = at(t, route.gen, route.slot)
			r.Script(api.OFail)
			tells(t, r, "fails", x.gen, x.slot, api.ErrRouter)
			look(t, r, "fails", route.slot, route.gen, 1)
			counts(t, f, "fails", 2, false)
		}
	}
}

// P11.2, Call: of the route that a new router has, whose generation no call can have.
func TestFromTheFirstRoute(t *testing.T) {
	for slot := range 2 {
		for _, gen := range []int{1, 2, api.MaxGen} {
			r := New(fuse.New())
			r.Script(api.OFail, api.OLost)
			tells(t, r, "fails", gen, slot, api.ErrRouter)
			look(t, r, "fails", 0, 0, 0)
			tells(t, r, "is lost", gen, slot, api.ErrRouter)
			look(t, r, "is lost", slot, gen, 1)
			tells(t, r, "is told", gen, slot, api.OK)
			look(t, r, "is told", slot, gen, 1)
		}
	}
}

// P11.3: a call that is done again changes nothing more, and tells OK, if it tells anything.
func TestDoneAgain(t *testing.T) {
	for slot := range 2 {
		for _, first := range []int{api.OAck, api.OLost, 8} {
			for _, again := range []int{api.OAck, api.OLost, api.OFail, 8} {
				r := New(fuse.New())
				r.Script(first, again, again)
				r.Call(5, slot)
				look(t, r, "called", slot, 5, 1)
				for range 2 {
					want := api.OK
					if again == api.OLost || again == api.OFail {
						want = api.ErrRouter
					}
					tells(t, r, fmt.Sprintf("%d, then %d", first, again), 5, slot, want)
					look(t, r, "called again", slot, 5, 1)
				}
				tells(t, r, "none scripted", 5, slot, api.OK)
				look(t, r, "none scripted", slot, 5, 1)
			}
		}
	}
}

// source makes noise that is the same whenever the tests run.
type source uint64

func (s *source) below(n int) int {
	*s = *s*6364136223846793005 + 1442695040888963407
	return int(uint64(*s>>33) % uint64(n))
}

// words is a router as the chapter's words tell it, with a fuse of its own: bears is below 0 while any calls are borne.
type words struct {
	route  api.Cell
	writes int
	coming []int
	bears  int
	count  int
}

func (w *words) call(gen, slot int) api.Errno {
	if slot < 0 || slot > 1 || gen < 1 || gen > 1<<20 {
		return api.ErrRange
	}
	if w.bears == 0 {
		return api.ErrHalt
	}
	w.bears = max(w.bears-1, -1)
	w.count++
	outcome := 0
	if len(w.coming) > 0 {
		outcome, w.coming = w.coming[0], w.coming[1:]
	}
	if outcome == 2 {
		return api.ErrRouter
	}
	told := api.ErrStale
	switch {
	case gen > w.route.Gen:
		w.route.Gen, w.route.Slot = gen, slot
		w.writes++
		told = api.OK
	case gen == w.route.Gen && slot == w.route.Slot:
		told = api.OK
	}
	if outcome == 1 {
		return api.ErrRouter
	}
	return told
}

// P11.1, P11.2, P11.3: many orders of calls, held against the words; the route changes with greater generations alone, and as often as Writes tells.
func TestManyOrders(t *testing.T) {
	noise := source(11)
	for round := range 3000 {
		f := fuse.New()
		r, w := New(f), &words{bears: -1}
		changes := 0
		for call := range 60 {
			before := r.Cell()
			what := fmt.Sprintf("round %d, call %d", round, call)
			switch noise.below(12) {
			case 0:
				f.Reset()
				w.bears = -1
			case 1:
				n := noise.below(6)
				f.Arm(n)
				w.bears = n
			case 2, 3:
				var outcomes []int
				for range noise.below(4) {
					outcomes = append(outcomes, noise.below(5)-1)
				}
				r.Script(outcomes...)
				w.coming = append(w.coming, outcomes...)
			default:
				gen, slot := noise.below(12), noise.below(2)
				if noise.below(20) == 0 {
					gen, slot = noise.below(3)-1+api.MaxGen*noise.below(2), noise.below(4)-1
				}
				if e, want := r.Call(gen, slot), w.call(gen, slot); e != want {
					t.Fatalf("%s: Call(%d, %d): %d; want %d", what, gen, slot, e, want)
				}
			}
			if r.Cell() != w.route || r.Writes() != w.writes || f.Count() != w.count {
				t.Fatalf("%s: %+v, set %d times, %d borne; want %+v, %d, %d", what, r.Cell(), r.Writes(), f.Count(), w.route, w.writes, w.count)
			}
			if r.Cell() != before {
				changes++
				if r.Cell().Gen <= before.Gen {
					t.Fatalf("%s: %+v behind %+v", what, r.Cell(), before)
				}
			}
			if r.Writes() != changes {
				t.Fatalf("%s: set %d times, changed %d times", what, r.Writes(), changes)
			}
		}
	}
}

// P11.3: all orders in which six calls of three generations and both slots may come.
func TestAllOrders(t *testing.T) {
	calls := []api.Cell{{Slot: 0, Gen: 1}, {Slot: 1, Gen: 1}, {Slot: 0, Gen: 2}, {Slot: 1, Gen: 2}, {Slot: 0, Gen: 3}, {Slot: 1, Gen: 3}}
	const length = 6
	all := 1
	for range length {
		all *= len(calls)
	}
	for way := range all {
		r := New(fuse.New())
		w := &words{bears: -1}
		for rest, i := way, 0; i < length; rest, i = rest/len(calls), i+1 {
			c := calls[rest%len(calls)]
			if e, want := r.Call(c.Gen, c.Slot), w.call(c.Gen, c.Slot); e != want || r.Cell() != w.route || r.Writes() != w.writes {
				t.Fatalf("way %d, call %d: %d, %+v, set %d times; want %d, %+v, %d", way, i, e, r.Cell(), r.Writes(), want, w.route, w.writes)
			}
		}
	}
}

// P11.3: a route of each generation, one by one up to the greatest, behind which no call changes it.
func TestLong(t *testing.T) {
	f := fuse.New()
	r := New(f)
	for gen := 1; gen <= api.MaxGen; gen++ {
		if e := r.Call(gen, gen&1); e != api.OK || r.Cell() != (api.Cell{Slot: gen & 1, Gen: gen}) || r.Writes() != gen {
			t.Fatalf("Call(%d): %d, %+v, set %d times", gen, e, r.Cell(), r.Writes())
		}
	}
	tells(t, r, "the greatest again", api.MaxGen, 0, api.OK)
	tells(t, r, "its other slot", api.MaxGen, 1, api.ErrStale)
	tells(t, r, "one above", api.MaxGen+1, 1, api.ErrRange)
	tells(t, r, "one below", api.MaxGen-1, 1, api.ErrStale)
	look(t, r, "behind all", 0, api.MaxGen, api.MaxGen)
	counts(t, f, "behind all", api.MaxGen+3, false)
}

// Rule 6: two that are told the same tell the same, whatever a third is told between.
func TestAgain(t *testing.T) {
	f, g := fuse.New(), fuse.New()
	one, two, third := New(f), New(g), New(fuse.New())
	noise := source(5)
	for i := range 2000 {
		gen, slot, o := noise.below(40+i), noise.below(3), noise.below(4)
		one.Script(o)
		a := one.Call(gen, slot)
		third.Script(o+1, o)
		third.Call(gen+i, 1-slot)
		two.Script(o)
		b := two.Call(gen, slot)
		if a != b || one.Cell() != two.Cell() || one.Writes() != two.Writes() || f.Count() != g.Count() {
			t.Fatalf("call %d: %d and %d, %+v and %+v", i, a, b, one.Cell(), two.Cell())
		}
	}
}
