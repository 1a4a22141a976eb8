package recover

import (
	"fmt"
	"math"
	"slices"
	"testing"

	"switchback/api"
)

// source makes noise that is the same whenever the tests run.
type source uint64

func (s *source) below(n int) int {
	*s = *s*6364136223846793005 + 1442695040888963407
	return int(uint64(*s>>33) % uint64(n))
}

func (s *source) one(l ...int) int { return l[s.below(len(l))] }

// watch holds what a log tells, from call to call, against what P18.3 says.
type watch struct {
	x     *pair
	first api.State
	may   []api.State // those that may last
	seen  map[string]int
}

// over is a state with its switch ended, by an Open at that tick.
func over(s api.State, now int) api.State {
	switch s.Switch {
	case 1:
		s.Gen, s.Switch = s.Gen-1, 0
	case 2:
		s = switched(s, min(max(now, 0), in30))
	}
	return s
}

func (w *watch) open(tries, now int) {
	w.x.t.Helper()
	e := w.x.open(w.first, tries, now)
	var ended []api.State
	for _, s := range w.may {
		ended = append(ended, over(s, now))
	}
	w.seen[fmt.Sprintf("open: %d", e)]++
	switch {
	case e == api.OK:
		s := w.x.l.State()
		if !slices.Contains(ended, s) {
			w.x.fail("%+v; want one of %+v", s, ended)
		}
		w.seen[fmt.Sprintf("found %d of %d", slices.Index(ended, s), len(ended))]++
		w.may = []api.State{s}
	case e == api.ErrHalt, e == api.ErrRouter, e == api.ErrFull && len(w.x.p.now) < 6:
		for _, s := range ended {
			if !slices.Contains(w.may, s) {
				w.may = append(w.may, s)
			}
		}
	default:
		w.x.fail("%d", e)
	}
	w.look()
}

// put is a record that is put, if its switch has the route that it tells of.
func (w *watch) put(r api.Rec) {
	w.x.t.Helper()
	s := w.x.l.State()
	next, ok := after(s, r)
	if ok && r.Kind == 8 && w.x.set(2) != api.OK {
		return
	}
	e := w.x.put(r)
	w.seen[fmt.Sprintf("put %d: %d", r.Kind, e)]++
	if e == api.ErrHalt && !slices.Contains(w.may, next) {
		// A log that is broken takes no record any more, so that only the first of them may last.
		if len(w.may) == 1 && w.x.d.Open() == 1 {
			w.may = append(w.may, next)
		}
	}
	if e == api.OK {
		w.may = []api.State{next}
	}
	w.look()
}

func (w *watch) compact() {
	w.x.t.Helper()
	s := w.x.l.State()
	w.seen[fmt.Sprintf("compact, switch %d: %d", s.Switch, w.x.compact())]++
	w.look()
}

// look complains unless the route is that of the state, or that of its switch, once that is committed.
func (w *watch) look() {
	w.x.t.Helper()
	if w.x.l == nil {
		return
	}
	s, route := w.x.l.State(), w.x.r.Cell()
	ahead := over(api.State{Active: s.Active, Gen: s.Gen, Switch: min(s.Switch, 1)}, 0)
	if route != (api.Cell{Slot: s.Active, Gen: ahead.Gen}) && (s.Switch != 2 || route != api.Cell{Slot: 1 - s.Active, Gen: s.Gen}) {
		w.x.fail("route %+v of %+v", route, s)
	}
	if !right(s) {
		w.x.fail("%+v may not be", s)
	}
}

// onward is a record that can come, of each Kind as often.
func (s *source) onward(st api.State) api.Rec {
	by := map[int][]api.Rec{}
	var kinds []int
	for _, r := range can(st) {
		if by[r.Kind] == nil {
			kinds = append(kinds, r.Kind)
		}
		by[r.Kind] = append(by[r.Kind], r)
	}
	l := by[s.one(kinds...)]
	return l[s.below(len(l))]
}

// act is any call.
func (s *source) act(w *watch) {
	w.x.t.Helper()
	if w.x.l == nil {
		switch s.below(4) {
		case 0:
			w.x.crash(uint64(s.one(0, 1, 1, -1)), s.below(140)-5)
		default:
			w.open(s.one(math.MinInt, 0, 1, 1, 2, 3, 9), s.one(-1, 0, 1, 2, in30, math.MaxInt))
		}
		return
	}
	switch s.below(20) {
	case 0:
		w.x.arm(s.below(9))
	case 1:
		w.x.crash(uint64(s.one(0, 1, 1, -1)), s.one(128, s.below(128)))
	case 2:
		w.open(s.one(0, 1, 2, 8), s.one(3, 4, 5))
	case 3, 4:
		w.compact()
	case 5:
		w.x.comes(s.one(0, 1, 2, 2, 7), s.one(0, 1, 2), s.one(1, 2))
	case 6, 7:
		l := tried(w.x.l.State())
		w.put(l[s.below(len(l))])
	case 8:
		w.x.reset()
	default:
		w.put(s.onward(w.x.l.State()))
	}
}

// P18.1 to P18.3: many scripts, held against the chapter's words at each call, and against the consequences by what is told alone.
func TestScripts(t *testing.T) {
	noise, seen := source(18), map[string]int{}
	for range 1200 {
		first := append(quiet(), one(), one(), one())[noise.below(19)]
		w := &watch{x: begun(t, noise.one(128, 128, 129), noise.one(4, 5, 6, 7, 8, 9, 10, 11, 12, 16, 20)), first: first, may: []api.State{first}, seen: seen}
		w.x.routes(api.Cell{Slot: first.Active, Gen: first.Gen})
		w.open(1, 0)
		for range 60 {
			noise.act(w)
		}
	}
	for _, what := range []string{
		"open: 0", "open: 2", "open: 10", "found 0 of 1", "found 0 of 2", "found 1 of 2",
		"compact, switch 0: 0", "compact, switch 1: 0", "compact, switch 2: 0", "compact, switch 0: 2", "compact, switch 1: 2", "compact, switch 2: 2",
		"put 1: 0", "put 2: 0", "put 3: 0", "put 4: 0", "put 5: 0", "put 6: 0", "put 7: 0", "put 8: 0", "put 9: 0", "put 10: 0",
		"put 1: 2", "put 5: 2", "put 6: 2", "put 7: 2", "put 8: 2", "put 1: 3", "put 5: 3", "put 6: 3", "put 8: 3", "put 1: 14", "put 8: 14", "put 11: 14",
	} {
		if seen[what] < 20 {
			t.Errorf("%s: seen %d times", what, seen[what])
		}
	}
	if t.Failed() {
		t.Log(seen)
	}
}

// acts are those of which short scripts are made; one that needs an open log does nothing without it.
func acts() []func(x *pair) api.Errno {
	put := func(r func(s api.State) api.Rec) func(x *pair) api.Errno {
		return func(x *pair) api.Errno {
			if x.l == nil {
				return -1
			}
			return x.put(r(x.l.State()))
		}
	}
	return []func(x *pair) api.Errno{
		put(func(s api.State) api.Rec { return api.Rec{Kind: 5, Gen: s.Gen + 1} }),
		put(func(s api.State) api.Rec { return api.Rec{Kind: 6, Gen: s.Gen} }),
		put(func(s api.State) api.Rec { return api.Rec{Kind: 7, Gen: s.Gen} }),
		put(func(s api.State) api.Rec { return api.Rec{Kind: 8, Gen: s.Gen, Tick: 1} }),
		put(func(s api.State) api.Rec { return api.Rec{Kind: 2} }),
		put(func(s api.State) api.Rec { return api.Rec{Kind: 9, Pass: true, Gen: 1} }),
		func(x *pair) api.Errno {
			if x.l == nil {
				return -1
			}
			return x.compact()
		},
		func(x *pair) api.Errno { return x.open(of(3, 0), 1, 2) },
		func(x *pair) api.Errno { return x.set(1) },
		func(x *pair) api.Errno { x.arm(1); return 0 },
		func(x *pair) api.Errno { x.arm(3); return 0 },
		func(x *pair) api.Errno { x.crash(0, 0); return 0 },
		func(x *pair) api.Errno { x.crash(1, 128); return 0 },
		func(x *pair) api.Errno { x.comes(api.OFail); return 0 },
	}
}

// replayed is a pair behind these acts, and what each of them told.
func replayed(t *testing.T, path []int) (*pair, []api.Errno) {
	t.Helper()
	x := begun(t, 128, 7)
	x.routes(api.Cell{Slot: 0, Gen: 5})
	all := acts()
	var told []api.Errno
	for _, i := range path {
		told = append(told, all[i](x))
	}
	return x, told
}

// key tells one pair from all that are unlike it.
func (x *pair) key() string {
	p := *x.p
	p.borne, p.writes = 0, 0
	return fmt.Sprintf("%+v, %t", p, x.l == nil)
}

// P18.1 to P18.3: all that short scripts lead to, each act behind each of it, held against the chapter's words.
func TestShortScripts(t *testing.T) {
	const deep = 8
	seen, phases := map[string]bool{}, map[string]int{}
	ahead := [][]int{{7}}
	for range deep {
		var next [][]int
		for _, path := range ahead {
			for i := range acts() {
				to := append(slices.Clone(path), i)
				x, _ := replayed(t, to)
				// What is scripted and never comes makes ever more that are alike.
				if key := x.key(); !seen[key] && len(x.p.script) < 2 && x.p.gen < 4 {
					seen[key] = true
					next = append(next, to)
					phases[fmt.Sprintf("phase %d, switch %d", x.p.s.Phase, x.p.s.Switch)]++
				}
			}
		}
		ahead = next
	}
	if len(seen) < 6000 || len(phases) < 6 {
		t.Errorf("%d points, %v", len(seen), phases)
	}
}

// P18.1, P18.2: the same calls, told again, tell the same, and logs don't tell on one another (rule 6).
func TestAgain(t *testing.T) {
	noise := source(6)
	for range 200 {
		path := []int{7}
		for range 40 {
			path = append(path, noise.below(len(acts())))
		}
		x, told := replayed(t, path)
		y, again := replayed(t, path)
		if !slices.Equal(told, again) || x.key() != y.key() {
			t.Fatalf("%d and %d", told, again)
		}
		a, b := begun(t, 128, 7), begun(t, 128, 7)
		for k, i := range path {
			if k == 0 {
				a.routes(api.Cell{Slot: 0, Gen: 5})
				b.routes(api.Cell{Slot: 0, Gen: 5})
			}
			all := acts()
			if ea, eb := all[i](a), all[i](b); ea != told[k] || eb != told[k] {
				t.Fatalf("act %d: %d and %d; it told %d", k, ea, eb, told[k])
			}
		}
	}
}
