package recover

import (
	"errors"
	"fmt"
	"math"
	"slices"
	"strconv"
	"strings"
	"testing"

	"switchback/api"
)

// one is a controller's first state: slot 0 alone, revision 1, two replicas.
func one() api.State {
	return api.State{Rev: [2]int{1, 0}, Want: [2]int{2, 0}, Passed: [2]bool{true, false}}
}

// rollout are the records that lead from one to a switch that is committed: of revision 2, with three replicas.
func rollout() []api.Rec {
	return []api.Rec{{Kind: 1, Rev: 2, N: 3}, {Kind: 3}, {Kind: 4, Pass: true}, {Kind: 5, Gen: 1}, {Kind: 6, Gen: 1}}
}

// texts are their bytes, as the document spells them.
func texts() []string {
	return []string{"\x01\x02\x03\x00", "\x03", "\x04\x01", "\x05\x01", "\x06\x01"}
}

// both is the state behind these records, without a switch; gone is that behind the switch.
func both() api.State {
	return api.State{Phase: 3, Rev: [2]int{1, 2}, Want: [2]int{2, 3}, Passed: [2]bool{true, true}}
}

func gone(tick int) api.State {
	s := both()
	s.Phase, s.Active, s.Gen, s.Flip = 4, 1, 1, tick
	return s
}

// The document's examples.
func TestExamples(t *testing.T) {
	x := begun(t, 128, 16)
	x.opens(one(), 2, 0)
	x.stands(one(), 7)
	x.puts(rollout()...)
	x.opens(one(), 2, 77)
	x.stands(gone(77), 1)
	if x.r.Cell() != (api.Cell{Slot: 1, Gen: 1}) || x.r.Writes() != 1 {
		t.Errorf("%+v, %d writes", x.r.Cell(), x.r.Writes())
	}
	x.holds([]int{1, 2, 3, 0}, []int{3}, []int{4, 1}, []int{5, 1}, []int{6, 1}, []int{8, 1, 77})
}

// The examples of the whole that need no more than a log: 2, 3, 8 and 9.
func TestExamplesOfTheWhole(t *testing.T) {
	for lasting, want := range map[int]api.State{4: both(), 5: gone(3)} {
		x := begun(t, 128, 16)
		x.opens(one(), 2, 0)
		x.puts(rollout()[:lasting]...)
		x.arm(0)
		x.crash(0, 0)
		x.opens(one(), 2, 3)
		x.stands(want, 6-lasting)
		if lasting == 4 {
			x.puts(api.Rec{Kind: 5, Gen: 1})
		}
	}
	x := begun(t, 128, 8)
	x.opens(one(), 2, 0)
	x.puts(rollout()[:3]...)
	x.refused(api.ErrFull, func() api.Errno { return x.put(api.Rec{Kind: 5, Gen: 1}) })
	if e := x.compact(); e != api.OK {
		t.Error(e)
	}
	x.puts(rollout()[3:]...)

	x = begun(t, 128, 16)
	x.opens(one(), 2, 0)
	x.puts(rollout()[:2]...)
	x.arm(1)
	x.put(rollout()[2])
	x.crash(1, 15)
	x.opens(one(), 2, 0)
	want := both()
	want.Phase, want.Passed[1] = 2, false
	x.stands(want, 5)
}

// kinds are numbers of Kinds, and of none.
func kinds() []int {
	return []int{1, 2, 3, 4, 5, 6, 7, 8, 9, 10, 11, 0, -1, 12, 13, 255, 257, 258, 1<<32 + 1, 1<<32 + 5, math.MinInt, math.MaxInt, -1 << 62}
}

// tried are records of each Kind: those that can come in a state, and those that nearly can.
func tried(s api.State) []api.Rec {
	l := []api.Rec{{Kind: 2}, {Kind: 3}, {Kind: 4}, {Kind: 4, Pass: true}, {Kind: 9}, {Kind: 9, Pass: true}, {Kind: 10}, {Kind: 11}, {Kind: 11, State: s}}
	deploy := func(rev, n, delay int) { l = append(l, api.Rec{Kind: 1, Rev: rev, N: n, Delay: delay}) }
	for _, rev := range []int{30, 1, in30, s.Rev[0], s.Rev[1], 0, -1, in30 + 1, 1 << 31, 1<<32 + 1, math.MinInt, math.MaxInt} {
		deploy(rev, 3, 9)
	}
	for _, n := range []int{1, 32, 0, -1, 33, 257, 1<<32 + 1, math.MinInt, math.MaxInt} {
		deploy(30, n, 9)
	}
	for _, delay := range []int{0, 65536, -1, 65537, 1<<32 + 1, math.MinInt, math.MaxInt} {
		deploy(30, 3, delay)
	}
	for _, gen := range []int{s.Gen, s.Gen + 1, s.Gen - 1, s.Gen + 2, 0, 1, -1, 1<<32 + s.Gen, 1<<32 + s.Gen + 1, math.MinInt, math.MaxInt} {
		l = append(l, api.Rec{Kind: 5, Gen: gen}, api.Rec{Kind: 6, Gen: gen}, api.Rec{Kind: 7, Gen: gen}, api.Rec{Kind: 8, Gen: gen, Tick: 11})
	}
	for _, tick := range []int{0, 1, in30, -1, in30 + 1, 1<<32 + 1, math.MinInt, math.MaxInt} {
		l = append(l, api.Rec{Kind: 8, Gen: s.Gen, Tick: tick})
	}
	for _, kind := range kinds()[11:] {
		l = append(l, api.Rec{Kind: kind}, api.Rec{Kind: kind, Rev: 30, N: 3, Delay: 9}, api.Rec{Kind: kind, Gen: s.Gen})
	}
	return l
}

// can are those of tried that can come.
func can(s api.State) []api.Rec {
	var l []api.Rec
	for _, r := range tried(s) {
		if _, ok := after(s, r); ok {
			l = append(l, r)
		}
	}
	return l
}

// ends are states whose generation, and whose numbers besides, are at their ends.
func ends() []api.State {
	var l []api.State
	for _, s := range states() {
		for _, gen := range []int{in20, in20 - 1, in20 - 2, in20 - 3, 1, 2} {
			s.Gen = gen
			l = append(l, s)
		}
		s.Rev[s.Active], s.Want[s.Active], s.Delay, s.Flip = in30, 32, 65536, in30
		l = append(l, s)
		s.Rev[s.Active], s.Want[s.Active], s.Delay, s.Flip = 1, 1, 0, 0
		l = append(l, s)
	}
	return l
}

// P18.1: Put of each Kind, in each state: what can come lasts and makes the state, and leaves room for one fewer; ErrOrder tells of what can't come, and nothing changes.
func TestPut(t *testing.T) {
	came, refused := map[int]int{}, map[int]int{}
	for _, s := range append(states(), ends()...) {
		for _, r := range tried(s) {
			x := from(t, s, 12)
			room := x.l.Room()
			next, ok := after(s, r)
			if !ok {
				x.refused(api.ErrOrder, func() api.Errno { return x.put(r) })
				x.stands(s, room)
				refused[r.Kind]++
				continue
			}
			before := x.records()
			x.puts(r)
			x.stands(next, room-1)
			if got := x.records(); !slices.Equal(got, append(before, bytesOf(numbersOf(r)...))) {
				x.fail("records %q; they were %q", got, before)
			}
			came[r.Kind]++
			if next.Switch == 0 {
				first := s
				if s.Switch != 0 {
					first.Gen, first.Switch = s.Gen-1, 0
				}
				x.crash(0, 0)
				x.opens(first, 1, 0)
				x.stands(next, room-1)
			}
		}
	}
	for kind := 1; kind <= 10; kind++ {
		if came[kind] < 4 || refused[kind] < 30 {
			t.Errorf("kind %d: %d came, %d were refused", kind, came[kind], refused[kind])
		}
	}
	if came[11] > 0 || refused[11] < 20 {
		t.Errorf("kind 11: %d came, %d were refused", came[11], refused[11])
	}
}

// besides are a record's likes with a field more that isn't zero, of those that its Kind hasn't.
func besides(r api.Rec) []api.Rec {
	var l []api.Rec
	for _, n := range []int{1, -1, 7, math.MaxInt, math.MinInt} {
		for _, change := range []func(r *api.Rec){
			func(r *api.Rec) { r.Rev += n }, func(r *api.Rec) { r.N += n }, func(r *api.Rec) { r.Delay += n },
			func(r *api.Rec) { r.Gen += n }, func(r *api.Rec) { r.Tick += n }, func(r *api.Rec) { r.Pass = !r.Pass },
			func(r *api.Rec) { r.State.Phase = n }, func(r *api.Rec) { r.State.Active = n }, func(r *api.Rec) { r.State.Flip = n },
			func(r *api.Rec) { r.State.Rev[0] = n }, func(r *api.Rec) { r.State.Rev[1] = n }, func(r *api.Rec) { r.State.Want[0] = n },
			func(r *api.Rec) { r.State.Want[1] = n }, func(r *api.Rec) { r.State.Passed[0] = true }, func(r *api.Rec) { r.State.Passed[1] = true },
			func(r *api.Rec) { r.State.Delay = n }, func(r *api.Rec) { r.State.Gen = n }, func(r *api.Rec) { r.State.Switch = n },
			func(r *api.Rec) { r.State = of(3, 2) }, func(r *api.Rec) { r.Rev, r.N, r.Delay, r.Gen, r.Tick = n, n, n, n, n },
		} {
			other := r
			change(&other)
			if other != recordOf(numbersOf(other)) {
				l = append(l, other)
			}
		}
	}
	return l
}

// P18.1: Put of a record that intent refuses: its error, once it can come, and nothing changes; ahead of the log's errors.
func TestPutForm(t *testing.T) {
	seen := map[int]int{}
	for _, s := range states() {
		x := from(t, s, 12)
		room := x.l.Room()
		full := filled(t, s)
		broken := from(t, s, 12)
		broken.arm(0)
		broken.put(can(s)[0])
		broken.reset()
		for _, r := range tried(s) {
			for _, other := range besides(r) {
				want := api.ErrForm
				if _, ok := after(s, other); !ok {
					want = api.ErrOrder
				}
				for _, x := range []*pair{x, full, broken} {
					x.refused(want, func() api.Errno { return x.l.Put(other) })
				}
				if want == api.ErrForm {
					seen[r.Kind]++
				}
			}
		}
		x.stands(s, room)
		x.look()
		x.puts(can(s)[0])
		full.look()
		broken.look()
	}
	for kind := 1; kind <= 10; kind++ {
		if seen[kind] < 40 {
			t.Errorf("kind %d: %d records", kind, seen[kind])
		}
	}
}

// filled is a pair in a state, with no room.
func filled(t *testing.T, s api.State) *pair {
	t.Helper()
	if s.Switch != 0 {
		x := from(t, s, 2+2*s.Switch)
		x.stands(s, 0)
		return x
	}
	x := begun(t, 128, 4)
	x.raw(bytesOf(numbersOf(api.Rec{Kind: 11, State: s})...))
	x.opens(one(), 1, 0)
	x.stands(s, 0)
	return x
}

// P18.1: Put without room: ErrFull, and nothing changes; ErrOrder comes first.
func TestPutFull(t *testing.T) {
	for _, s := range states() {
		x := filled(t, s)
		for _, r := range tried(s) {
			want := api.ErrOrder
			if _, ok := after(s, r); ok {
				want = api.ErrFull
			}
			x.refused(want, func() api.Errno { return x.put(r) })
			x.stands(s, 0)
		}
		if len(can(s)) == 0 {
			t.Errorf("%+v: nothing can come", s)
		}
	}
}

// P18.1: Put whose write, or whose flush, fails: ErrHalt, and the state stays; so it is from then on, though the power comes again; ErrOrder comes first.
func TestPutHalt(t *testing.T) {
	for _, s := range states() {
		for _, r := range can(s) {
			for n := range 2 {
				x := from(t, s, 12)
				room := x.l.Room()
				x.arm(n)
				if e := x.put(r); e != api.ErrHalt {
					x.fail("with %d calls: %d", n, e)
				}
				x.stands(s, room)
				for range 2 {
					x.refused(api.ErrHalt, func() api.Errno { return x.put(r) })
					x.refused(api.ErrHalt, func() api.Errno { return x.compact() })
					x.refused(api.ErrOrder, func() api.Errno { return x.put(api.Rec{Kind: 11, State: s}) })
					x.stands(s, room)
					x.reset()
				}
			}
			x := from(t, s, 12)
			x.arm(2)
			x.puts(r)
		}
	}
}

// P18.1: Compact in each state: the state stays, a switch under way too, and is the only record; it goes on from there, and lasts.
func TestCompact(t *testing.T) {
	for _, s := range append(states(), ends()...) {
		for _, r := range can(s) {
			x := from(t, s, 12)
			for range 3 {
				if e := x.compact(); e != api.OK {
					x.fail("%d", e)
				}
				x.stands(s, 4)
				x.holds(numbersOf(api.Rec{Kind: 11, State: s}))
			}
			next, _ := after(s, r)
			x.puts(r)
			x.stands(next, 3)
			x.holds(numbersOf(api.Rec{Kind: 11, State: s}), numbersOf(r))
			if next.Switch == 0 {
				x.crash(0, 0)
				x.opens(one(), 1, 0)
				x.stands(next, 3)
			}
		}
		x := filled(t, s)
		if e := x.compact(); e != api.OK {
			x.fail("%d", e)
		}
		x.stands(s, len(x.p.now)/2-2)
	}
}

// P18.1: Compact with a power cut at each of its calls, and behind one: ErrHalt, and the state stays, a switch under way too; so it is from then on, though the power comes again.
func TestCompactHalt(t *testing.T) {
	for _, s := range states() {
		for n := range 5 {
			x := from(t, s, 12)
			room := x.l.Room()
			x.arm(n)
			e := x.compact()
			if n == 4 {
				if e != api.OK {
					x.fail("with all its calls: %d", e)
				}
				x.stands(s, 4)
				continue
			}
			for range 2 {
				if e != api.ErrHalt {
					x.fail("with %d calls: %d", n, e)
				}
				x.stands(s, room)
				x.refused(api.ErrHalt, func() api.Errno { return x.put(can(s)[0]) })
				x.refused(api.ErrOrder, func() api.Errno { return x.put(api.Rec{}) })
				x.stands(s, room)
				x.reset()
				x.refused(api.ErrHalt, func() api.Errno { e = x.compact(); return e })
			}
		}
	}
}

// lays writes sectors, and flushes them, and leaves no log open.
func (x *pair) lays(sectors map[int]string) {
	x.t.Helper()
	x.l = nil
	for at, b := range sectors {
		x.told(x.d.Write(at, b), map[bool]api.Errno{true: 0, false: 2}[x.p.write(at, b)], "write", at, strconv.Quote(b))
	}
	x.told(x.d.Flush(), map[bool]api.Errno{true: 0, false: 2}[x.p.flush()], "flush")
}

// last lays a log of the last generation, with these records.
func (x *pair) last(records ...[]int) {
	x.t.Helper()
	sectors := map[int]string{0: x.p.sector(last32, 0, "head")}
	for i, l := range records {
		sectors[i+1] = x.p.sector(last32, i+1, bytesOf(l...))
	}
	x.lays(sectors)
}

// P18.1: Compact of a log of the last generation: ErrOver, nothing changes, and records are put as before.
func TestCompactOver(t *testing.T) {
	for _, s := range quiet() {
		x := begun(t, 128, 8)
		x.last(numbersOf(api.Rec{Kind: 11, State: s}))
		x.opens(one(), 1, 0)
		x.stands(s, 2)
		x.refused(api.ErrOver, func() api.Errno { return x.compact() })
		x.stands(s, 2)
		x.puts(can(s)[0])
		x.arm(0)
		x.refused(api.ErrOver, func() api.Errno { return x.compact() })
		if e := x.put(can(x.p.s)[0]); e != api.ErrHalt {
			x.fail("%d", e)
		}
		x.refused(api.ErrHalt, func() api.Errno { return x.compact() })
	}
	x := begun(t, 128, 8)
	x.lays(map[int]string{0: x.p.sector(last32-1, 0, "head")})
	x.opens(one(), 1, 0)
	if e := x.compact(); e != api.OK {
		x.fail("%d", e)
	}
	x.refused(api.ErrOver, func() api.Errno { return x.compact() })
}

// P18.1: Room and State on disks of all sizes, from a fresh one on till there is no room, and behind a compaction.
func TestRoom(t *testing.T) {
	for _, size := range []int{128, 129, 1023, 1024} {
		for _, n := range []int{4, 5, 6, 7, 8, 9, 10, 15, 16, 33, 64} {
			x := begun(t, size, n)
			x.opens(one(), 1, 0)
			room, s := n/2-1, one()
			for range 3 {
				for rev := 2; room > 0; room-- {
					x.stands(s, room)
					rev++
					x.puts(api.Rec{Kind: 1, Rev: rev, N: 5, Delay: 6})
					s = api.State{Phase: 1, Rev: [2]int{1, rev}, Want: [2]int{2, 5}, Passed: [2]bool{true, false}, Delay: 6}
				}
				x.stands(s, 0)
				x.refused(api.ErrFull, func() api.Errno { return x.put(api.Rec{Kind: 3}) })
				if e := x.compact(); e != api.OK {
					x.fail("%d", e)
				}
				room = n/2 - 2
				x.stands(s, room)
			}
		}
	}
	x := begun(t, 128, 1024)
	x.opens(one(), 1, 0)
	x.stands(one(), 511)
}

// P18.2: Open of a fresh disk: the first state, whichever that is, with its switch ended; a head is all that is written else.
func TestOpenFresh(t *testing.T) {
	for _, n := range []int{4, 5, 8, 9, 1024} {
		for _, first := range append(quiet(), one(), both(), gone(in30)) {
			x := begun(t, 128, n)
			x.opens(first, 1, 5)
			x.stands(first, n/2-1)
			x.holds()
			if x.f.Count() != 2 {
				t.Errorf("%d calls", x.f.Count())
			}
		}
	}
	for _, s := range halfway(1) {
		x := begun(t, 128, 8)
		x.opens(s, 1, 5)
		s.Gen, s.Switch = 4, 0
		x.stands(s, 2)
		x.holds([]int{7, 5})
	}
	for _, s := range halfway(2) {
		x := begun(t, 128, 8)
		x.opens(s, 1, 5)
		x.stands(switched(s, 5), 2)
		x.holds([]int{8, 5, 5})
		if x.r.Cell() != (api.Cell{Slot: 1 - s.Active, Gen: 5}) {
			t.Errorf("%+v", x.r.Cell())
		}
	}
}

// P18.2: Open of a disk that wal refuses: its error, no log, and the router isn't called.
func TestOpenHalt(t *testing.T) {
	for n := range 2 {
		x := begun(t, 128, 8)
		x.arm(n)
		if e := x.open(of(3, 2), 1, 0); e != api.ErrHalt {
			x.fail("%d", e)
		}
		if x.r.Writes() != 0 || x.f.Count() != n {
			x.fail("%d writes, %d calls", x.r.Writes(), x.f.Count())
		}
	}
	for _, s := range states() {
		x := from(t, s, 12)
		count := x.r.Writes()
		x.arm(1)
		x.put(can(s)[0])
		for range 2 {
			if e := x.open(one(), 1, 0); e != api.ErrHalt {
				x.fail("%d", e)
			}
		}
		if x.r.Writes() != count || x.d.Open() != 1 {
			x.fail("%d writes, %d not flushed", x.r.Writes(), x.d.Open())
		}
	}
}

// wrong are bytes that no record has.
func wrong() []string {
	l := []string{
		"", "\x00", "\x0c", "\x0d", "\x7f", "head", "\x80", "\x80\x00", "\x82\x00", "\xff\xff", "\x02\x80",
		strings.Repeat("\xff", 9), strings.Repeat("\xff", 114), strings.Repeat("\x00", 114), strings.Repeat("\x80", 8) + "\x01",
		"\x01", "\x01\x02", "\x01\x02\x03", "\x01\x02\x03\x00\x00", "\x01\x02\x03\x80\x00", "\x01\x02\x03\x80", "\x02\x00", "\x03\x01", "\x0a\x00",
		"\x04", "\x04\x01\x01", "\x09", "\x05", "\x06\x01\x01", "\x07", "\x08\x01", "\x08\x01\x01\x01", "\x0b", "\x81\x02",
	}
	for _, n := range [][]int{
		{1, 0, 3, 0}, {1, in30 + 1, 3, 0}, {1, 2, 0, 0}, {1, 2, 33, 0}, {1, 2, 3, 65537}, {4, 2}, {9, 2}, {4, in30},
		{5, 0}, {5, in20 + 1}, {6, 0}, {6, in20 + 1}, {7, 0}, {7, in20 + 1}, {8, 0, 1}, {8, in20 + 1, 1}, {8, 1, in30 + 1}, {8, 1, math.MaxInt},
		{12}, {256}, {257}, {258}, {math.MaxInt},
	} {
		l = append(l, bytesOf(n...))
	}
	snap := numbersOf(api.Rec{Kind: 11, State: of(3, 1)})
	l = append(l, bytesOf(snap[:12]...), bytesOf(append(snap, 0)...))
	for i, past := range []int{8, 2, in30 + 1, in30 + 1, 33, 33, 2, 2, 65537, in20 + 1, 3, in30 + 1} {
		n := slices.Clone(snap)
		n[i+1] = past
		l = append(l, bytesOf(n...))
	}
	return l
}

// misread complains unless the Open of a disk with these records, and with room or without, tells that, writes nothing, and doesn't call the router.
func misread(t *testing.T, want api.Errno, first api.State, records []string) {
	t.Helper()
	misreadOn(t, 20, want, first, records)
	misreadOn(t, 2+2*len(records), want, first, records)
}

func misreadOn(t *testing.T, sectors int, want api.Errno, first api.State, records []string) {
	t.Helper()
	x := begun(t, 128, sectors)
	x.comes(api.OFail, api.OLost)
	x.raw(records...)
	for range 2 {
		x.refused(want, func() api.Errno { return x.open(first, 3, 5) })
		x.reset()
		x.arm(0)
	}
	if x.f.Blown() || x.r.Writes() != 0 || x.r.Call(1, 1) != api.ErrHalt {
		x.fail("blown: %t, %d writes", x.f.Blown(), x.r.Writes())
	}
	x.f.Reset()
	for _, e := range []api.Errno{api.ErrRouter, api.ErrRouter, api.OK} {
		if x.r.Call(1, 1) != e {
			x.fail("an outcome was used")
		}
	}
}

// P18.2: Open of a disk one of whose records isn't one: ErrForm, at the first, a middle and the last record; nothing is written, and the router isn't called.
func TestOpenForm(t *testing.T) {
	all := append(texts(), "\x08\x01\x05", "\x09\x01")
	for _, b := range wrong() {
		for n := 1; n <= len(all); n++ {
			for i := range n {
				l := slices.Clone(all[:n])
				l[i] = b
				misread(t, api.ErrForm, one(), l)
			}
		}
		misread(t, api.ErrForm, of(3, 1), []string{b})
		misread(t, api.ErrForm, of(3, 2), []string{b})
	}
}

// P18.2: ErrForm is told ahead of ErrOrder, though it comes of a later record.
func TestOpenFormFirst(t *testing.T) {
	for _, b := range wrong() {
		misread(t, api.ErrForm, one(), []string{"\x0a", b})
		misread(t, api.ErrForm, one(), []string{"\x03", "\x03", "\x03", b, "\x03"})
		misread(t, api.ErrForm, one(), append(texts(), "\x06\x01", b))
		misread(t, api.ErrForm, one(), []string{b, "\x0a"})
	}
}

// P18.2: Open of a disk one of whose records can't come: ErrOrder, at the first, a middle and the last record; nothing is written, and the router isn't called.
func TestOpenOrder(t *testing.T) {
	all := append(rollout(), api.Rec{Kind: 8, Gen: 1, Tick: 5}, api.Rec{Kind: 9, Pass: true})
	seen := map[int]int{}
	s := one()
	var ahead []string
	for i, r := range all {
		for _, other := range tried(s) {
			l := numbersOf(other)
			if _, ok := after(s, other); ok || !within(l) || i == 0 && other.Kind == 11 {
				continue
			}
			misread(t, api.ErrOrder, one(), append(slices.Clone(ahead), bytesOf(l...)))
			for _, behind := range all[i+1:] {
				misread(t, api.ErrOrder, one(), append(slices.Clone(ahead), bytesOf(l...), bytesOf(numbersOf(behind)...)))
			}
			seen[other.Kind]++
		}
		s, _ = after(s, r)
		ahead = append(ahead, bytesOf(numbersOf(r)...))
	}
	for kind := 1; kind <= 11; kind++ {
		if seen[kind] < 3 {
			t.Errorf("kind %d: %d times", kind, seen[kind])
		}
	}
}

// P18.2: a snapshot comes as the first record alone, of a state that may be.
func TestOpenSnap(t *testing.T) {
	snap := func(s api.State) string { return bytesOf(numbersOf(api.Rec{Kind: 11, State: s})...) }
	for _, s := range append(quiet(), one(), gone(0)) {
		x := begun(t, 128, 12)
		x.raw(snap(s))
		x.opens(of(6, 2), 1, 0)
		x.stands(s, 4)
		misread(t, api.ErrOrder, one(), []string{snap(s), snap(s)})
		misread(t, api.ErrOrder, one(), append(texts(), snap(s)))
		misread(t, api.ErrOrder, one(), []string{snap(s), "\x08\x01\x05"})
	}
	none := 0
	for _, s := range states() {
		for _, change := range []func(s *api.State){
			func(s *api.State) { s.Rev[s.Active] = 0 }, func(s *api.State) { s.Want[s.Active] = 0 }, func(s *api.State) { s.Passed[s.Active] = false },
			func(s *api.State) { s.Rev[1-s.Active] = 0 }, func(s *api.State) { s.Want[1-s.Active] = 0 }, func(s *api.State) { s.Rev[1-s.Active] = s.Rev[s.Active] },
			func(s *api.State) { s.Passed[1-s.Active] = !s.Passed[1-s.Active] }, func(s *api.State) { s.Active = 1 - s.Active; s.Passed = [2]bool{} },
			func(s *api.State) { s.Switch = 1; s.Gen = 0 }, func(s *api.State) { s.Switch = 2; s.Phase = 4 }, func(s *api.State) { s.Switch = 1; s.Phase = 5 },
			func(s *api.State) { s.Phase = 0; s.Rev[1-s.Active] = 4 },
		} {
			other := s
			change(&other)
			if right(other) {
				continue
			}
			none++
			misread(t, api.ErrOrder, one(), []string{snap(other)})
			misread(t, api.ErrOrder, s, []string{snap(other), "\x02"})
		}
	}
	if none < 150 {
		t.Errorf("%d states that may not be", none)
	}
}

// P18.2: Open of a state without a switch: the log, OK; nothing is written, and the router isn't called, though neither would be borne.
func TestOpenNone(t *testing.T) {
	for _, s := range quiet() {
		x := begun(t, 128, 12)
		x.raw(bytesOf(numbersOf(api.Rec{Kind: 11, State: s})...))
		x.comes(api.OFail, api.OLost)
		for _, tries := range []int{math.MinInt, 0, 1, 8, math.MaxInt} {
			x.arm(0)
			x.refused(api.OK, func() api.Errno { return x.open(one(), tries, tries) })
			x.stands(s, 4)
		}
		if x.f.Blown() {
			t.Error("something was called")
		}
	}
	x := begun(t, 128, 20)
	x.raw(texts()...)
	x.raw("\x08\x01\x05", "\x09\x01", "\x0a")
	x.opens(one(), 1, 77)
	want := gone(5)
	want.Phase, want.Rev[0], want.Want[0], want.Passed[0] = 0, 0, 0, false
	x.stands(want, 1)
}

// P18.2: Open of a switch that is ready: KCancel of its generation is laid, as it is if there is room, and behind the state if there isn't; the router isn't called.
func TestOpenReady(t *testing.T) {
	for _, s := range append(halfway(1), ready(in20), ready(1)) {
		before := s
		before.Gen, before.Switch = s.Gen-1, 0
		snap := numbersOf(api.Rec{Kind: 11, State: s})
		for n := 4; n <= 16; n++ {
			x := begun(t, 128, n)
			x.comes(api.OFail)
			x.raw(bytesOf(snap...))
			if n < 6 {
				// The state takes all the room that there is.
				for range 3 {
					if e := x.open(one(), 1, 0); e != api.ErrFull {
						x.fail("%d", e)
					}
					x.holds(snap)
				}
				continue
			}
			x.opens(one(), 1, 0)
			x.stands(before, n/2-3)
			x.holds(snap, []int{7, s.Gen})
			if n/2 > 3 {
				x.puts(api.Rec{Kind: 5, Gen: s.Gen})
			}
		}
		x := begun(t, 128, 6)
		x.raw(bytesOf(numbersOf(api.Rec{Kind: 11, State: before})...), bytesOf(5, s.Gen))
		x.opens(one(), 1, 0)
		x.stands(before, 0)
		x.holds(snap, []int{7, s.Gen})
		if x.r.Writes() != 0 || len(x.p.script) != 0 {
			x.fail("the router was called")
		}
		x = begun(t, 128, 8)
		x.raw(bytesOf(numbersOf(api.Rec{Kind: 11, State: before})...), bytesOf(5, s.Gen))
		x.opens(one(), 1, 0)
		x.stands(before, 0)
		x.holds(numbersOf(api.Rec{Kind: 11, State: before}), []int{5, s.Gen}, []int{7, s.Gen})
	}
}

// ready is a state with a switch that is ready, of that generation.
func ready(gen int) api.State {
	s := of(3, 1)
	s.Gen = gen
	return s
}

// P18.2: Open of a switch that is committed: the route gets the other slot, and KApplied is laid, as it is if there is room, and behind the state if there isn't.
func TestOpenCommit(t *testing.T) {
	first, top := of(3, 2), of(6, 2)
	first.Gen, top.Gen = 1, in20
	for _, s := range append(halfway(2), first, top) {
		prepared := s
		prepared.Switch = 1
		snap := numbersOf(api.Rec{Kind: 11, State: s})
		for n := 4; n <= 16; n++ {
			x := begun(t, 128, n)
			x.raw(bytesOf(snap...))
			if n < 6 {
				for range 3 {
					if e := x.open(one(), 1, 33); e != api.ErrFull {
						x.fail("%d", e)
					}
					x.holds(snap)
				}
			} else {
				x.opens(one(), 1, 33)
				x.stands(switched(s, 33), n/2-3)
				x.holds(snap, []int{8, s.Gen, 33})
			}
			if x.r.Cell() != (api.Cell{Slot: 1 - s.Active, Gen: s.Gen}) || x.r.Writes() != 1 {
				x.fail("route %+v, %d writes", x.r.Cell(), x.r.Writes())
			}
		}
		x := begun(t, 128, 6)
		x.raw(bytesOf(numbersOf(api.Rec{Kind: 11, State: prepared})...), bytesOf(6, s.Gen))
		x.opens(one(), 1, 33)
		x.stands(switched(s, 33), 0)
		x.holds(snap, []int{8, s.Gen, 33})
		x.opens(one(), 1, 34)
		x.stands(switched(s, 33), 0)
	}
}

// P18.2: the record that can't be laid for a log of the last generation: ErrOver, and nothing is written; the route of a committed switch is set.
func TestOpenOver(t *testing.T) {
	for _, far := range []int{1, 2} {
		for _, s := range halfway(far) {
			snap := numbersOf(api.Rec{Kind: 11, State: s})
			x := begun(t, 128, 5)
			x.last(snap)
			for range 2 {
				written := slices.Clone(x.p.now)
				if e := x.open(one(), 1, 0); e != api.ErrOver || !slices.Equal(written, x.p.now) {
					x.fail("%d", e)
				}
			}
			if x.r.Writes() != far-1 {
				x.fail("%d writes", x.r.Writes())
			}
			x = begun(t, 128, 6)
			x.last(snap)
			x.opens(one(), 1, 0)
			if x.l.State().Switch != 0 || x.l.Room() != 0 {
				x.fail("%+v", x.l.State())
			}
		}
	}
}

// outcomes are all lists of up to so many.
func outcomes(most int) [][]int {
	all, ahead := [][]int{nil}, [][]int{nil}
	for range most {
		var next [][]int
		for _, l := range ahead {
			for _, o := range []int{api.OAck, api.OLost, api.OFail} {
				next = append(next, append(slices.Clone(l), o))
			}
		}
		all, ahead = append(all, next...), next
	}
	return all
}

// committed is a pair without an open log, whose switch is committed.
func committed(t *testing.T, s api.State, n int) *pair {
	t.Helper()
	x := from(t, s, n)
	x.crash(0, 0)
	return x
}

// opensWith complains unless the Open of a committed switch makes of these outcomes what the chapters say, and, done again, ends the switch.
func opensWith(t *testing.T, s api.State, l []int, tries, counts int) api.Errno {
	t.Helper()
	x := committed(t, s, 12)
	before := s
	before.Gen, before.Switch = s.Gen-1, 0
	route, count := x.r.Cell(), x.f.Count()
	x.comes(l...)
	want, calls := api.OK, 0
	for _, o := range append(slices.Clone(l), 0, 0, 0, 0, 0, 0, 0, 0)[:counts] {
		calls++
		if o != api.OFail {
			route = api.Cell{Slot: 1 - s.Active, Gen: s.Gen}
		}
		want = api.ErrRouter
		if o == api.OAck {
			want = api.OK
			break
		}
	}
	if e := x.open(before, tries, 55); e != want || x.r.Cell() != route {
		x.fail("%d, %+v; want %d, %+v", e, x.r.Cell(), want, route)
	}
	if want == api.OK {
		calls += 2
	}
	if x.f.Count()-count != calls {
		x.fail("%d calls; want %d", x.f.Count()-count, calls)
	}
	again := want
	for n := 0; again != api.OK; n++ {
		if again = x.open(before, tries, 55); again != api.OK && (again != api.ErrRouter || n > len(l)) {
			x.fail("done again: %d", again)
		}
	}
	x.stands(switched(s, 55), 2)
	if x.r.Cell() != (api.Cell{Slot: 1 - s.Active, Gen: s.Gen}) || x.r.Writes() != 2 {
		x.fail("route %+v, %d writes", x.r.Cell(), x.r.Writes())
	}
	return want
}

// P18.2: a committed switch with each of the router's outcomes, fewer and more of them than the tries: what the client tells, if that isn't OK, and no log; done again, the switch comes to its end.
func TestOpenOutcomes(t *testing.T) {
	told := map[api.Errno]int{}
	for _, s := range halfway(2) {
		for _, l := range outcomes(4) {
			for _, tries := range []int{1, 2, 3, 4, 5} {
				told[opensWith(t, s, l, tries, tries)]++
			}
		}
	}
	if told[api.OK] < 500 || told[api.ErrRouter] < 500 {
		t.Errorf("%v", told)
	}
}

// P18.2: a committed switch with tries of all sizes, below 1 and above what the client takes.
func TestOpenTries(t *testing.T) {
	for tries, counts := range most() {
		for n := range 12 {
			fails := slices.Repeat([]int{api.OFail}, n)
			e := opensWith(t, of(3, 2), fails, tries, counts)
			if (e == api.OK) != (n < counts) {
				t.Errorf("%d tries, %d fail: %d", tries, n, e)
			}
			lost := slices.Repeat([]int{api.OLost}, n)
			opensWith(t, turned(of(6, 2)), lost, tries, counts)
			opensWith(t, of(6, 2), append(fails, api.OLost), tries, counts)
		}
	}
}

// P18.2: a committed switch whose route was set already, or is another one's: what the client tells.
func TestOpenRoutes(t *testing.T) {
	for _, s := range halfway(2) {
		before, other := s, 1-s.Active
		before.Gen, before.Switch = 4, 0
		for route, want := range map[api.Cell]api.Errno{
			{Slot: other, Gen: 5}: api.OK, {Slot: other, Gen: 6}: api.ErrStale, {Slot: s.Active, Gen: 6}: api.ErrStale,
			{Slot: s.Active, Gen: 5}: api.ErrStale, {Slot: other, Gen: in20}: api.ErrStale,
		} {
			x := committed(t, s, 12)
			x.call(route)
			writes := x.r.Writes()
			for range 2 {
				if e := x.open(before, 3, 1); e != want || x.r.Writes() != writes || x.r.Cell() != route {
					x.fail("%d", e)
				}
			}
			if want == api.OK {
				x.stands(switched(s, 1), 2)
				continue
			}
			x.holds([]int{5, 5}, []int{6, 5})
			x.comes(api.OLost, api.OLost, api.OLost, api.OFail)
			for _, e := range []api.Errno{api.ErrRouter, api.ErrStale} {
				if got := x.open(before, 3, 1); got != e {
					x.fail("%d", got)
				}
			}
		}
	}
}

// P18.2: now at its ends, and past them.
func TestOpenNow(t *testing.T) {
	for now, counts := range map[int]int{
		math.MinInt: 0, -1 << 32: 0, -1<<32 + 7: 0, -in30: 0, -1: 0, 0: 0, 1: 1, 9: 9, 65536: 65536, in30 - 1: in30 - 1, in30: in30,
		in30 + 1: in30, 1 << 31: in30, 1 << 32: in30, 1<<32 + 7: in30, math.MaxInt - 1: in30, math.MaxInt: in30,
	} {
		for _, s := range halfway(2) {
			for _, n := range []int{6, 12} {
				x := committed(t, s, n)
				before := s
				before.Gen, before.Switch = 4, 0
				x.opens(before, 1, now)
				x.stands(switched(s, counts), map[int]int{6: 0, 12: 2}[n])
				x.crash(0, 0)
				x.opens(before, 1, 3)
				x.stands(switched(s, counts), map[int]int{6: 0, 12: 2}[n])
			}
		}
		for _, s := range halfway(1) {
			before := s
			before.Gen, before.Switch = 4, 0
			x := committed(t, s, 12)
			x.opens(before, 1, now)
			x.stands(before, 3)
		}
	}
}

// P18.2: a first state that may not be is out of the promise; but no call panics, and each ends.
func TestFirstWrong(t *testing.T) {
	for _, n := range []int{math.MinInt, -1, 0, 1, 2, 3, 8, in30 + 1, math.MaxInt} {
		for _, first := range []api.State{
			{}, {Active: n}, {Phase: n, Switch: 1}, {Phase: 3, Switch: 2, Active: n, Gen: n}, {Switch: n}, {Switch: 1, Gen: n}, {Switch: 2, Gen: 1, Flip: n},
			{Phase: n, Active: n, Rev: [2]int{n, n}, Want: [2]int{n, n}, Delay: n, Gen: n, Switch: n, Flip: n},
		} {
			for _, sectors := range []int{4, 12} {
				x := begun(t, 128, sectors)
				l, e := Open(x.d, x.r, first, n, n)
				if (l == nil) != (e != api.OK) {
					t.Fatalf("%+v: %v, %d", first, l, e)
				}
				if l == nil {
					continue
				}
				for _, kind := range kinds() {
					if e := l.Put(api.Rec{Kind: kind, Rev: 5, N: 5, Gen: n + 1, Tick: n, State: first}); e == api.OK {
						t.Errorf("%+v: kind %d came", first, kind)
					}
				}
				l.Compact()
				l.State()
				l.Room()
			}
		}
	}
}

// P18.1, P18.2: errors on the way are wrapped, and their number is what is told at the end.
func TestWrapped(t *testing.T) {
	if told("here", api.OK) != nil || wrapped("there", nil) != nil || unwrapped(nil) != api.OK {
		t.Error("an error of OK")
	}
	for e := api.ErrRange; e <= api.ErrOrder; e++ {
		err := told("a", e)
		for _, where := range []string{"b", "c", "d"} {
			if unwrapped(err) != e || !errors.Is(err, number(e)) {
				t.Errorf("%v: %d; want %d", err, unwrapped(err), e)
			}
			err = wrapped(where, err)
		}
		if want := fmt.Sprintf("d: c: b: a: error %d", int(e)); err.Error() != want {
			t.Errorf("%q; want %q", err, want)
		}
	}
}
