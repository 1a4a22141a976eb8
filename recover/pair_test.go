package recover

import (
	"slices"
	"strconv"
	"testing"

	"switchback/api"
	"switchback/client"
	"switchback/disk"
	"switchback/fuse"
	"switchback/router"
	"switchback/wal"
)

// of is a state that may be, in a phase, with a switch so far, slot 0 active.
func of(phase, far int) api.State {
	s := api.State{
		Phase: phase, Rev: [2]int{10, 20}, Want: [2]int{4, 6}, Passed: [2]bool{true, phase > 2},
		Delay: 7, Gen: 5, Switch: far, Flip: 9,
	}
	if phase == 0 {
		s.Rev[1], s.Want[1] = 0, 0
	}
	return s
}

// turned is the state with its slots changed one for the other.
func turned(s api.State) api.State {
	slices.Reverse(s.Rev[:])
	slices.Reverse(s.Want[:])
	slices.Reverse(s.Passed[:])
	s.Active = 1 - s.Active
	return s
}

// quiet are states of each phase without a switch, for either slot active.
func quiet() []api.State {
	var l []api.State
	for phase := range 8 {
		l = append(l, of(phase, 0), turned(of(phase, 0)))
	}
	return l
}

// halfway are states with a switch so far, for either slot active.
func halfway(far int) []api.State {
	return []api.State{of(3, far), turned(of(3, far)), of(6, far), turned(of(6, far))}
}

// states are all of these.
func states() []api.State { return slices.Concat(quiet(), halfway(1), halfway(2)) }

// most tells of numbers of tries as how many they count.
func most() map[int]int {
	m := map[int]int{
		-1 << 63: 1, -1 << 32: 1, -1<<32 + 5: 1, -1 << 31: 1, -8: 1, -1: 1, 0: 1,
		9: 8, 10: 8, 256: 8, 257: 8, 1<<31 - 1: 8, 1 << 32: 8, 1<<32 + 3: 8, 1<<63 - 1: 8,
	}
	for n := 1; n <= 8; n++ {
		m[n] = n
	}
	return m
}

// pair is a log on a disk, with a router, held against the paper at each call.
type pair struct {
	t   *testing.T
	f   *fuse.Fuse
	d   *disk.Disk
	r   *router.Router
	l   *Log // nil: none is open
	p   *paper
	did [][]any
}

// begun is a pair without a log.
func begun(t *testing.T, size, n int) *pair {
	f := fuse.New()
	return &pair{t: t, f: f, d: disk.New(size, n, f), r: router.New(f), p: newPaper(size, n)}
}

// from is a pair with a log on so many sectors, open, in that state: it has no record but those of the switch that is under way. The route names the active slot.
func from(t *testing.T, s api.State, n int) *pair {
	t.Helper()
	x := begun(t, 128, n)
	before := s
	if s.Switch != 0 {
		before.Gen, before.Switch = s.Gen-1, 0
	}
	x.routes(api.Cell{Slot: before.Active, Gen: before.Gen})
	x.opens(before, 1, 0)
	if s.Switch > 0 {
		x.puts(api.Rec{Kind: 5, Gen: s.Gen})
	}
	if s.Switch > 1 {
		x.puts(api.Rec{Kind: 6, Gen: s.Gen})
	}
	if x.l.State() != s {
		t.Fatalf("%+v; want %+v", x.l.State(), s)
	}
	return x
}

// fail complains, with all that was done.
func (x *pair) fail(format string, a ...any) {
	x.t.Helper()
	for _, did := range x.did {
		x.t.Logf("%+v", did)
	}
	x.t.Fatalf(format, a...)
}

// look complains unless all stands as on paper.
func (x *pair) look() {
	x.t.Helper()
	for i, want := range x.p.now {
		if b, e := x.d.Read(i); b != want || e != api.OK {
			x.fail("sector %d: %q, %d; want %q", i, b, e, want)
		}
	}
	if x.d.Open() != len(x.p.open) || x.f.Count() != x.p.borne || x.f.Blown() != x.p.blown {
		x.fail("%d writes not flushed, %d calls borne, blown: %t; want %d, %d, %t",
			x.d.Open(), x.f.Count(), x.f.Blown(), len(x.p.open), x.p.borne, x.p.blown)
	}
	if x.r.Cell() != x.p.route || x.r.Writes() != x.p.writes {
		x.fail("route %+v, %d writes; want %+v, %d", x.r.Cell(), x.r.Writes(), x.p.route, x.p.writes)
	}
	if x.l != nil && (x.l.State() != x.p.s || x.l.Room() != x.p.room()) {
		x.fail("%+v, room %d; want %+v, %d", x.l.State(), x.l.Room(), x.p.s, x.p.room())
	}
}

// told complains unless a call told this.
func (x *pair) told(e, want api.Errno, did ...any) api.Errno {
	x.t.Helper()
	x.did = append(x.did, append(did, e))
	if e != want {
		x.fail("%d; want %d", e, want)
	}
	x.look()
	return e
}

func (x *pair) open(first api.State, tries, now int) api.Errno {
	x.t.Helper()
	l, e := Open(x.d, x.r, first, tries, now)
	x.l = l
	if (l == nil) != (e != api.OK) {
		x.fail("%v, %d", l, e)
	}
	return x.told(e, x.p.openLog(first, tries, now), "open", first, tries, now)
}

func (x *pair) put(r api.Rec) api.Errno {
	x.t.Helper()
	return x.told(x.l.Put(r), x.p.put(r), "put", r)
}

func (x *pair) compact() api.Errno {
	x.t.Helper()
	return x.told(x.l.Compact(), x.p.compact(), "compact")
}

// set is the client's call: it leads the route where a switch leads it.
func (x *pair) set(tries int) api.Errno {
	x.t.Helper()
	to := api.Cell{Slot: 1 - x.p.s.Active, Gen: x.p.s.Gen}
	e, _ := client.Set(x.r, to, tries)
	return x.told(e, x.p.set(to, tries), "set", to, tries)
}

// call is someone's call of the router.
func (x *pair) call(to api.Cell) api.Errno {
	x.t.Helper()
	return x.told(x.r.Call(to.Gen, to.Slot), x.p.call(to), "call", to)
}

// routes makes the router name that.
func (x *pair) routes(to api.Cell) {
	x.t.Helper()
	if to.Gen > 0 && x.call(to) != api.OK {
		x.fail("the route to %+v", to)
	}
}

// comes scripts what comes of the router's calls.
func (x *pair) comes(outcomes ...int) {
	x.did = append(x.did, []any{"script", outcomes})
	x.r.Script(outcomes...)
	x.p.script = append(x.p.script, outcomes...)
}

func (x *pair) arm(n int) {
	x.did = append(x.did, []any{"arm", n})
	x.f.Arm(n)
	x.p.armed, x.p.left, x.p.blown = true, max(n, 0), false
}

// reset lets the power come again, without a crash.
func (x *pair) reset() {
	x.did = append(x.did, []any{"reset"})
	x.f.Reset()
	x.p.armed, x.p.left, x.p.blown = false, 0, false
}

// crash leaves no log open.
func (x *pair) crash(keep uint64, torn int) {
	x.t.Helper()
	x.did = append(x.did, []any{"crash", keep, torn})
	x.l = nil
	x.d.Crash(keep, torn)
	x.p.crash(keep, torn)
	x.look()
}

// raw writes these bytes as records, and leaves no log open.
func (x *pair) raw(texts ...string) {
	x.t.Helper()
	x.l = nil
	w, _, e := wal.Open(x.d)
	if _, want := x.p.openWal(); e != api.OK || want != api.OK {
		x.fail("wal.Open: %d, %d", e, want)
	}
	for _, b := range texts {
		x.told(w.Append(b), x.p.append(b), "raw", strconv.Quote(b))
	}
}

// records are the bytes that last, if there is no crash. They are of a disk that has a log, and all of whose writes are flushed.
func (x *pair) records() []string {
	x.t.Helper()
	_, l, e := wal.Open(x.d)
	if e != api.OK {
		x.fail("wal.Open: %d", e)
	}
	x.look()
	return l
}

// holds complains unless these are the records, by their numbers.
func (x *pair) holds(records ...[]int) {
	x.t.Helper()
	var want []string
	for _, l := range records {
		want = append(want, bytesOf(l...))
	}
	if got := x.records(); !slices.Equal(got, want) {
		x.fail("records %q; want %q", got, want)
	}
}

// opens complains unless an Open tells OK.
func (x *pair) opens(first api.State, tries, now int) {
	x.t.Helper()
	if e := x.open(first, tries, now); e != api.OK {
		x.fail("Open: %d", e)
	}
}

// puts complains unless these records are put.
func (x *pair) puts(l ...api.Rec) {
	x.t.Helper()
	for _, r := range l {
		if e := x.put(r); e != api.OK {
			x.fail("Put(%+v): %d", r, e)
		}
	}
}

// refused complains unless a call tells that, and nothing changes: no call of the disk, or of the router, is borne.
func (x *pair) refused(want api.Errno, call func() api.Errno) {
	x.t.Helper()
	count, open, l := x.f.Count(), x.d.Open(), x.l
	var state api.State
	if l != nil {
		state = l.State()
	}
	if e := call(); e != want {
		x.fail("%d; want %d", e, want)
	}
	if x.f.Count() != count || x.d.Open() != open || l != nil && l.State() != state {
		x.fail("something changed")
	}
}

// stands complains unless the log has that state, and that room.
func (x *pair) stands(s api.State, room int) {
	x.t.Helper()
	if x.l.State() != s || x.l.Room() != room {
		x.fail("%+v, room %d; want %+v, %d", x.l.State(), x.l.Room(), s, room)
	}
}
