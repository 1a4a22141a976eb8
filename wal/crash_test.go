package wal

import (
	"fmt"
	"math"
	"slices"
	"strings"
	"testing"

	"switchback/api"
	"switchback/disk"
	"switchback/fuse"
)

// call is an Append, or a Checkpoint.
type call struct {
	checkpoint bool
	s          string
}

func (c call) do(w *Wal) api.Errno {
	if c.checkpoint {
		return w.Checkpoint(c.s)
	}
	return w.Append(c.s)
}

// calls is how many calls of the disk it needs.
func (c call) calls() int {
	if c.checkpoint {
		return 4
	}
	return 2
}

// content is what a log has.
type content struct {
	gen     int
	records []string
}

func (a content) is(b content) bool { return a.gen == b.gen && slices.Equal(a.records, b.records) }

// behind is what a log has behind a call that is told OK.
func (a content) behind(c call) content {
	if c.checkpoint {
		return content{a.gen + 1, []string{c.s}}
	}
	return content{a.gen, append(slices.Clone(a.records), c.s)}
}

// run is a log on a new disk, and what it has behind these calls.
func run(t *testing.T, n int, l []call) (*fuse.Fuse, *disk.Disk, *Wal, content) {
	t.Helper()
	f, d := fresh(n)
	w, has := opened(t, d, "fresh", 1), content{gen: 1}
	for _, c := range l {
		if e := c.do(w); e != api.OK {
			t.Fatalf("%v: %d", c, e)
		}
		has = has.behind(c)
	}
	return f, d, w, has
}

// goesOn complains unless a log takes records till it is full, and a checkpoint, and all that lasts.
func goesOn(t *testing.T, f *fuse.Fuse, d *disk.Disk, w *Wal, what string, has content) {
	t.Helper()
	records := fill(t, f, w, "later", has.records...)
	unchanged(t, f, d, w, what, api.ErrFull, func() api.Errno { return w.Append("one more") })
	d.Crash(0, 0)
	w = opened(t, d, what+", appended", has.gen, records...)
	if e := w.Checkpoint("later"); e != api.OK {
		t.Errorf("%s: %d", what, e)
	}
	d.Crash(0, 0)
	w = opened(t, d, what+", checkpoint", has.gen+1, "later")
	records = fill(t, f, w, "last", "later")
	d.Crash(0, 0)
	opened(t, d, what+", appended behind the checkpoint", has.gen+1, records...)
}

// tears are how many bytes of a sector of 128 last, so that each part of a record is cut, and at its edges.
func tears() []int {
	return []int{-1, 0, 1, 2, 3, 5, 6, 7, 9, 10, 11, 12, 13, 14, 15, 16, 17, 18, 19, 20, 21, 22, 64, 127, 128, 129, math.MaxInt}
}

// aheads are calls by which both areas come to have nothing, little, and what is left of elder generations.
func aheads(n int) map[string][]call {
	long := strings.Repeat("r", 114)
	m := map[string][]call{
		"none":            nil,
		"a checkpoint":    {{true, "s"}},
		"two checkpoints": {{true, "s"}, {true, long}},
		"three":           {{true, long}, {true, "s"}, {true, "head"}},
	}
	if n >= 8 {
		m["a record"] = []call{{false, long}}
		m["two records"] = []call{{false, "a"}, {false, ""}}
		m["records, and a checkpoint"] = []call{{false, long}, {false, long}, {false, long}, {true, "c"}}
		m["both areas full once"] = []call{{false, long}, {false, "b"}, {false, "c"}, {true, "d"}, {false, long}, {false, "f"}, {true, "g"}}
		m["the same again"] = []call{{false, "new"}, {true, "new"}, {false, "new"}, {true, "new"}, {true, "new"}}
	}
	return m
}

// crashed makes a call with a fuse that bears n calls, lets the power fail, and looks at what lasts. It tells whether that is what the call would have made.
func crashed(t *testing.T, sectors int, ahead []call, c call, n int, beside bool, keep uint64, torn int, what string) bool {
	t.Helper()
	f, d, w, before := run(t, sectors, ahead)
	if beside {
		// A write of someone else's, behind both areas, so that of two open writes either is kept.
		write(t, d, rec{at: sectors - 1, raw: strings.Repeat("z", 128)})
	}
	f.Arm(n)
	e, after := c.do(w), before.behind(c)
	d.Crash(keep, torn)
	w, l, oe := Open(d)
	if oe != api.OK {
		t.Fatalf("%s: Open tells %d", what, oe)
	}
	has := content{w.Gen(), l}
	switch {
	case e == api.OK && n >= c.calls():
		if !has.is(after) {
			t.Fatalf("%s: told OK, has %v; want %v", what, has, after)
		}
	case e != api.ErrHalt || n >= c.calls():
		t.Fatalf("%s: %d", what, e)
	case !has.is(before) && !has.is(after):
		t.Fatalf("%s: has %v; want %v or %v", what, has, before, after)
	}
	look(t, w, what, has.gen, sectors/2-1-len(l), false)
	goesOn(t, f, d, w, what, has)
	return has.is(after)
}

// P7.4: a crash at every call of an Append and of a Checkpoint, with all, none and some of the writes kept, and the last one torn.
func TestCrashAtEveryCall(t *testing.T) {
	for _, sectors := range []int{4, 5, 8, 9} {
		for name, ahead := range aheads(sectors) {
			_, _, w, _ := run(t, sectors, ahead)
			for _, c := range []call{{false, "new"}, {true, "new"}} {
				if !c.checkpoint && w.Room() == 0 {
					continue
				}
				for n := range c.calls() + 1 {
					for _, torn := range tears() {
						for _, keep := range []uint64{0, 1, 2, 3, math.MaxUint64} {
							what := fmt.Sprintf("%d sectors, %s, %v, call %d, keep %x, torn %d", sectors, name, c, n, keep, torn)
							crashed(t, sectors, ahead, c, n, sectors%2 == 1, keep, torn, what)
						}
					}
				}
			}
		}
	}
}

// P7.4: a sector torn at each of its bytes; what the call would have made lasts if all that was written does, and never if none does.
func TestTornAtEachByte(t *testing.T) {
	ahead := []call{{false, strings.Repeat("r", 114)}, {false, strings.Repeat("r", 114)}, {true, "c"}, {true, "d"}}
	for _, c := range []call{{false, strings.Repeat("n", 114)}, {true, strings.Repeat("n", 114)}} {
		last := c.calls() - 1
		for torn := range 129 {
			for _, n := range []int{1, last} {
				what := fmt.Sprintf("%v, call %d, torn %d", c, n, torn)
				made := crashed(t, 8, ahead, c, n, false, 1, torn, what)
				if n == last && torn == 128 && !made || n < last && made || torn == 0 && made {
					t.Errorf("%s: made: %t", what, made)
				}
				if crashed(t, 8, ahead, c, n, false, 0, torn, what+", not kept") {
					t.Errorf("%s: made of nothing", what)
				}
			}
		}
	}
}

// P7.4: behind a crash at every call of an Open too.
func TestCrashAtOpen(t *testing.T) {
	for _, torn := range tears() {
		for _, keep := range []uint64{0, 1, 2, 3, math.MaxUint64} {
			what := fmt.Sprintf("keep %x, torn %d", keep, torn)
			for n := range 2 {
				f, d := fresh(8)
				f.Arm(n)
				Open(d)
				d.Crash(keep, torn)
				w := opened(t, d, what+", fresh", 1)
				goesOn(t, f, d, w, what+", fresh", content{gen: 1})
			}
			for _, c := range []call{{false, "b"}, {true, "b"}} {
				f, d, w, before := run(t, 8, []call{{false, "a"}})
				f.Arm(c.calls() - 1)
				c.do(w)
				if w, l, e := Open(d); w != nil || l != nil || e != api.ErrHalt {
					t.Fatalf("%s: %v, %q, %d", what, w, l, e)
				}
				d.Crash(keep, torn)
				w, l, e := Open(d)
				if e != api.OK {
					t.Fatalf("%s: %d", what, e)
				}
				has := content{w.Gen(), l}
				if !has.is(before) && !has.is(before.behind(c)) {
					t.Errorf("%s: has %v", what, has)
				}
				goesOn(t, f, d, w, what, has)
			}
		}
	}
}

// P7.4: what was found by an Open lasts, were it written by a call that broke the log.
func TestFoundLasts(t *testing.T) {
	for _, c := range []call{{false, "b"}, {true, "b"}} {
		f, d, w, before := run(t, 8, []call{{false, "a"}})
		f.Arm(c.calls() - 1)
		if e := c.do(w); e != api.ErrHalt {
			t.Error(e)
		}
		f.Reset()
		after := before.behind(c)
		lasts(t, d, "without a crash", after.gen, after.records...)
	}
}

// P7.4: a checkpoint that breaks off again and again leaves the log, and its last try is the one that counts.
func TestCheckpointAgainAndAgain(t *testing.T) {
	for _, first := range [][]call{{{false, "a"}, {false, "b"}}, {{true, "x"}, {true, "a"}, {false, "b"}}} {
		f, d, w, before := run(t, 8, first)
		for i := range 20 {
			f.Arm(i % 4)
			if e := w.Checkpoint(fmt.Sprintf("try %d", i)); e != api.ErrHalt {
				t.Error(i, e)
			}
			// The head's first bytes only, or nothing of it.
			d.Crash(uint64(i/4%2), i%14)
			w = opened(t, d, fmt.Sprintf("try %d", i), before.gen, before.records...)
		}
		if e := w.Checkpoint("done"); e != api.OK {
			t.Error(e)
		}
		w = lasts(t, d, "done", before.gen+1, "done")
		goesOn(t, f, d, w, "done", content{before.gen + 1, []string{"done"}})
	}
}

// walk is a log, and what the promises let it have.
type walk struct {
	seed  uint64
	f     *fuse.Fuse
	d     *disk.Disk
	w     *Wal // nil: it isn't open
	left  int  // how many calls the fuse bears; below 0: any
	may   []content
	steps map[string]int
}

func (k *walk) pick(n int) int {
	k.seed = k.seed*6364136223846793005 + 1442695040888963407
	return int(k.seed>>33) % n
}

// call makes a call of which all that is told is known ahead.
func (k *walk) call(t *testing.T) {
	t.Helper()
	if k.w == nil {
		return
	}
	lengths := []int{0, 1, 4, 5, 50, 113, 114, 115, 400}
	c := call{k.pick(4) == 0, strings.Repeat(string(rune('a'+k.pick(4))), lengths[k.pick(len(lengths))])}
	has, want := k.may[0], api.OK
	switch {
	case k.w.Broken():
		want = api.ErrHalt
	case len(c.s) > 114:
		want = api.ErrLong
	case !c.checkpoint && len(has.records) == k.d.Len()/2-1:
		want = api.ErrFull
	case k.left >= 0 && k.left < c.calls():
		want = api.ErrHalt
		k.left = 0
		k.may = append(k.may, has.behind(c))
	default:
		k.may[0] = has.behind(c)
		k.left = max(k.left-c.calls(), min(k.left, 0))
	}
	if e := c.do(k.w); e != want {
		t.Fatalf("%v on %v: %d; want %d", c, has, e, want)
	}
	k.steps[fmt.Sprintf("%t %d", c.checkpoint, want)]++
	look(t, k.w, "walk", k.may[0].gen, k.d.Len()/2-1-len(k.may[0].records), len(k.may) > 1)
}

// open opens the log anew: what it has then is what it may have.
func (k *walk) open(t *testing.T) {
	t.Helper()
	w, l, e := Open(k.d)
	if k.w = w; e != api.OK {
		if e != api.ErrHalt || w != nil || l != nil || !k.f.Blown() {
			t.Fatalf("%v, %q, %d, blown %t", w, l, e, k.f.Blown())
		}
		k.left = 0
		k.steps["Open halts"]++
		return
	}
	has := content{w.Gen(), l}
	at := slices.IndexFunc(k.may, has.is)
	if at < 0 {
		t.Fatalf("has %v; may have %v", has, k.may)
	}
	k.steps[fmt.Sprintf("found %d of %d", at, len(k.may))]++
	k.may = []content{has}
	look(t, w, "walk", has.gen, k.d.Len()/2-1-len(l), false)
}

// step does one thing. The fuse is armed only where what is left can be known behind it.
func (k *walk) step(t *testing.T) {
	t.Helper()
	switch k.pick(10) {
	case 0:
		if k.w != nil {
			k.left = k.pick(6)
			k.f.Arm(k.left)
		}
	case 1, 2:
		if len(k.may) == 1 && k.pick(4) > 0 {
			return
		}
		k.w = nil
		k.d.Crash(uint64(k.pick(4)), k.pick(140)-5)
		k.left = -1
		if k.pick(3) == 0 {
			k.f.Arm(k.pick(3))
		}
		k.open(t)
		k.f.Reset()
		if k.w == nil {
			k.open(t)
		}
	case 3:
		if k.w != nil && k.left != 0 {
			return
		}
		if k.pick(2) == 0 {
			k.f.Reset()
			k.left = -1
		}
		k.open(t)
	default:
		k.call(t)
	}
}

// P7.1 to P7.4: long ways through calls, crashes and Opens, held against what the promises let a log have.
func TestWalk(t *testing.T) {
	steps := map[string]int{}
	for seed := range uint64(400) {
		k := &walk{seed: seed*7919 + 1, left: -1, may: []content{{gen: 1}}, steps: steps}
		k.f, k.d = fresh(4 + k.pick(9))
		k.open(t)
		for range 300 {
			k.step(t)
		}
		k.d.Crash(0, 0)
		k.left = -1
		k.open(t)
	}
	for _, want := range []string{
		"false 0", "false 2", "false 3", "false 5", "true 0", "true 2", "true 5", "found 0 of 1", "found 0 of 2", "found 1 of 2", "Open halts",
	} {
		if steps[want] < 50 {
			t.Errorf("%s: %d times, too few to tell (%v)", want, steps[want], steps)
		}
	}
}
