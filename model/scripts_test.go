package model

import (
	"fmt"
	"math"
	"slices"
	"testing"

	"switchback/api"
	"switchback/fold"
)

// source makes noise that is the same whenever the tests run.
type source uint64

func (s *source) below(n int) int {
	*s = *s*6364136223846793005 + 1442695040888963407
	return int(uint64(*s>>33) % uint64(n))
}

func (s *source) one(l ...int) int { return l[s.below(len(l))] }

func (s *source) yes() bool { return s.below(2) == 0 }

// watch holds what the replies tell, from call to call, against what P17.4 says.
type watch struct {
	x    *pair
	was  api.Reply
	full bool // was the slot that is to get the route full, when its switch was committed?
	seen map[string]int
}

// isFull is whether all of a slot's replicas are ready, and there is one.
func isFull(v api.View, slot int) bool { return v.Want[slot] > 0 && v.Ready[slot] == v.Want[slot] }

// look complains unless this may be behind a call; done: it was a step, or wasn't refused.
func (w *watch) look(step, done bool) {
	w.x.t.Helper()
	r := w.x.m.Reply()
	s, other := r.State, 1-r.State.Active
	w.complain(!done && !step && r != w.was, "what was refused changed something")
	w.complain(!fold.Right(s), "a state that may not be")
	w.complain(!r.Up || r.Err != api.OK, "not up, or an error")
	w.complain(s.Want != r.View.Want, "the fleet isn't set")
	if s.Switch == api.SCommit {
		w.complain(r.Cell != api.Cell{Slot: s.Active, Gen: s.Gen - 1} && r.Cell != api.Cell{Slot: other, Gen: s.Gen}, "the route of a committed switch")
	} else {
		w.complain(r.Cell != api.Cell{Slot: s.Active, Gen: s.Gen}, "the route doesn't name the active slot")
	}
	if s.Switch == api.SCommit && w.was.State.Switch != api.SCommit {
		w.full = isFull(w.was.View, other)
	}
	if r.Cell != w.was.Cell {
		w.changed(r.Cell, step)
	}
	for _, slot := range []int{w.was.Cell.Slot, r.Cell.Slot} {
		w.complain(r.View.Want[slot] < w.was.View.Want[slot], "the slot that the route names was scaled down")
	}
	w.seen[fmt.Sprintf("phase %d, switch %d", s.Phase, s.Switch)]++
	w.was = r
}

// changed complains unless the route may change so.
func (w *watch) changed(to api.Cell, step bool) {
	w.x.t.Helper()
	full := isFull(w.was.View, to.Slot)
	if w.was.State.Switch == api.SCommit {
		full = w.full
	}
	w.complain(!step, "the route changed, though nothing was done")
	w.complain(to.Gen <= w.was.Cell.Gen, "the generation isn't greater")
	w.complain(to.Slot != 1-w.was.State.Active, "the route changed to the slot that was active")
	w.complain(!full, "the route changed to a slot that wasn't full")
	w.complain(!w.was.State.Passed[to.Slot], "the route changed to a slot whose gate hadn't passed")
	w.seen[fmt.Sprintf("route to %d", to.Slot)]++
}

func (w *watch) complain(wrong bool, what string) {
	w.x.t.Helper()
	if wrong {
		w.x.t.Fatalf("%s: %s: %+v; it was %+v", w.x.did, what, w.x.m.Reply(), w.was)
	}
}

func (w *watch) op(o api.Op) {
	w.x.t.Helper()
	phase, route := w.was.State.Phase, w.was.Cell
	e := w.x.op(o)
	w.look(false, e == api.OK)
	w.seen[fmt.Sprintf("op %d: %d", o.Kind, e)]++
	if o.Kind == api.KAbort && e == api.OK && phase <= api.PCutover {
		w.complain(w.was.Cell != route || w.was.State.Phase != api.PStable, "an abort ahead of the commit")
	}
	if o.Kind == api.KAbort && e == api.OK && phase > api.PCutover {
		w.complain(w.was.Cell != route || w.was.State.Phase != api.PRollback, "an abort behind the switch")
	}
}

func (w *watch) step(outcomes ...int) {
	w.x.t.Helper()
	e := w.x.step(outcomes...)
	w.complain(e != api.OK && e != api.ErrRouter, "a step's error")
	w.look(true, e == api.OK)
	w.seen[fmt.Sprintf("step: %d", e)]++
}

func (w *watch) ready(slot, i int, ready bool) {
	w.x.t.Helper()
	done := w.x.ready(slot, i, ready)
	w.look(false, done)
	w.seen[fmt.Sprintf("ready: %t", done)]++
}

func (w *watch) tick(n int) {
	w.x.t.Helper()
	w.x.tick(n)
	w.look(false, true)
}

// outcomes are what is scripted of the next calls: most often nothing.
func (s *source) outcomes() []int {
	var l []int
	for range s.one(0, 0, 0, 1, 1, 2, 3, 5) {
		l = append(l, s.one(api.OAck, api.OLost, api.OFail, api.OFail, 7))
	}
	return l
}

// op is any operation, often one that may not be done.
func (s *source) op(w *watch) api.Op {
	st := w.was.State
	return api.Op{
		Kind:  s.one(1, 2, 2, 4, 4, 9, 9, 1, s.below(13)),
		Rev:   s.one(1, 2, 3, st.Rev[0], st.Rev[1], in30, 0, -1, in30+1),
		N:     s.one(1, 2, 3, 31, 32, 1, 2, 0, 33),
		Delay: s.one(0, 1, 2, 3, 65536, 0, 1, -1, 65537),
		Pass:  s.yes(),
	}
}

// onward is what brings a rollout further.
func (s *source) onward(w *watch) {
	w.x.t.Helper()
	st := w.was.State
	other := 1 - st.Active
	switch st.Phase {
	case api.PStable:
		w.op(api.Op{Kind: api.KDeploy, Rev: 1 + (st.Rev[st.Active]+s.below(2))%3, N: 1 + s.below(4), Delay: s.below(4)})
	case api.PPreGate:
		w.op(api.Op{Kind: api.KPre, Rev: st.Rev[other], Pass: s.below(4) > 0})
	case api.PPostGate:
		w.op(api.Op{Kind: api.KPost, Rev: st.Rev[st.Active], Pass: s.below(3) > 0})
	case api.PDelay:
		w.tick(s.below(3))
		w.step()
	default:
		for i := range w.was.View.Want[other] {
			w.ready(other, i, s.below(9) > 0)
		}
		w.step(s.outcomes()...)
	}
}

// act is any call.
func (s *source) act(w *watch) {
	w.x.t.Helper()
	switch s.below(10) {
	case 0, 1:
		w.op(s.op(w))
	case 2, 3:
		w.step(s.outcomes()...)
	case 4:
		w.ready(s.one(0, 1, 0, 1, 2, -1), s.one(0, 1, 2, 3, 31, 32, -1), s.yes())
	case 5:
		w.tick(s.one(0, 1, 2, 3, -1, s.one(4, 65536, in30-100, math.MinInt, math.MaxInt)))
	default:
		s.onward(w)
	}
}

// P17.1 to P17.4: many scripts, held against the chapter's words at each call, and against the consequences by the replies alone.
func TestScripts(t *testing.T) {
	noise, seen := source(17), map[string]int{}
	for range 1500 {
		rev, n, tries := 1+noise.below(3), noise.one(1, 2, 3, 32), noise.one(-1, 0, 1, 1, 2, 3, 8, 9)
		w := &watch{x: begun(t, rev, n, tries), seen: seen}
		w.was = w.x.m.Reply()
		for range 80 {
			noise.act(w)
		}
		w.x.which()
	}
	for _, what := range []string{
		"phase 0, switch 0", "phase 1, switch 0", "phase 2, switch 0", "phase 3, switch 0", "phase 3, switch 2", "phase 4, switch 0",
		"phase 5, switch 0", "phase 6, switch 0", "phase 6, switch 2", "phase 7, switch 0", "route to 0", "route to 1",
		"op 1: 0", "op 1: 1", "op 1: 7", "op 1: 8", "op 1: 9", "op 2: 0", "op 2: 7", "op 4: 0", "op 4: 1", "op 4: 7", "op 4: 13",
		"op 9: 0", "op 9: 1", "op 9: 7", "op 9: 13", "op 0: 6", "op 3: 6", "op 11: 6", "op 12: 6", "step: 0", "step: 10", "ready: true", "ready: false",
	} {
		if seen[what] < 20 {
			t.Errorf("%s: seen %d times", what, seen[what])
		}
	}
}

// act is a call, of the model and of the paper.
type act struct {
	name string
	m    func(m *Model) api.Errno
	p    func(p *paper) api.Errno
}

func opOf(o api.Op) act {
	return act{fmt.Sprintf("%+v", o), func(m *Model) api.Errno { return m.Op(o) }, func(p *paper) api.Errno { return p.op(o) }}
}

func stepOf(outcomes ...int) act {
	return act{
		fmt.Sprintf("a step, %v", outcomes),
		func(m *Model) api.Errno { return m.Step(outcomes...) }, func(p *paper) api.Errno { return p.step(outcomes...) },
	}
}

func readyOf(slot, i int, ready bool) act {
	told := func(done bool) api.Errno { return map[bool]api.Errno{true: api.OK, false: api.ErrNone}[done] }
	return act{
		fmt.Sprintf("Ready(%d, %d, %t)", slot, i, ready),
		func(m *Model) api.Errno { return told(m.Ready(slot, i, ready)) },
		func(p *paper) api.Errno { return told(p.setReady(slot, i, ready)) },
	}
}

func tickOf(n int) act {
	return act{
		fmt.Sprintf("Tick(%d)", n),
		func(m *Model) api.Errno { m.Tick(n); return api.OK }, func(p *paper) api.Errno { p.addTick(n); return api.OK },
	}
}

// acts are those of which short scripts are made.
func acts() []act {
	return []act{
		opOf(api.Op{Kind: api.KDeploy, Rev: 2, N: 1, Delay: 1}), opOf(api.Op{Kind: api.KDeploy, Rev: 3, N: 2}), opOf(api.Op{Kind: api.KAbort}),
		opOf(api.Op{Kind: api.KPre, Rev: 2, Pass: true}), opOf(api.Op{Kind: api.KPre, Rev: 2}),
		opOf(api.Op{Kind: api.KPost, Rev: 2, Pass: true}), opOf(api.Op{Kind: api.KPost, Rev: 2}),
		stepOf(), stepOf(api.OFail), stepOf(api.OLost),
		readyOf(1, 0, true), readyOf(1, 0, false), readyOf(0, 0, false), readyOf(0, 0, true), readyOf(1, 1, true), tickOf(1),
	}
}

// replayed is a model behind these acts.
func replayed(all []act, path []int, tries int) *Model {
	m, _ := New(1, 1, tries)
	for _, i := range path {
		all[i].m(m)
	}
	return m
}

// point is where a short script leads.
type point struct {
	p    paper
	path []int
}

// behind is the point behind an act, held against the model.
func (at point) behind(t *testing.T, all []act, i, tries int) point {
	t.Helper()
	next := point{p: at.p, path: append(slices.Clone(at.path), i)}
	next.p.script = slices.Clone(at.p.script)
	want := all[i].p(&next.p)
	m := replayed(all, at.path, tries)
	if e, got := all[i].m(m), m.Reply(); e != want || got != next.p.reply() {
		for _, k := range next.path {
			t.Log(all[k].name)
		}
		t.Fatalf("%d, %+v; want %d, %+v", e, got, want, next.p.reply())
	}
	return next
}

// P17.1 to P17.3: all that short scripts lead to, each act behind each of it, held against the chapter's words.
func TestShortScripts(t *testing.T) {
	const deep = 12
	all, phases, reached := acts(), map[int]int{}, 0
	for _, tries := range []int{1, 2} {
		first, _ := newPaper(1, 1, tries)
		seen, ahead := map[string]bool{}, []point{{p: *first}}
		for depth := 0; depth < deep; depth++ {
			var next []point
			for _, at := range ahead {
				for i := range all {
					// What is scripted and never comes, and time that goes by with no switch, make ever more points that are alike.
					to := at.behind(t, all, i, tries)
					if key := to.p.key(); !seen[key] && len(to.p.script) < 3 && to.p.tick < 3 {
						seen[key] = true
						next = append(next, to)
						phases[to.p.s.Phase]++
					}
				}
			}
			ahead = next
			reached += len(next)
		}
	}
	if reached < 3500 || len(phases) != 8 {
		t.Errorf("%d points, phases %v", reached, phases)
	}
}

// P17.1 to P17.3: the same calls, told again, tell the same, and models don't tell on one another (rule 6).
func TestAgain(t *testing.T) {
	noise, all := source(6), acts()
	for range 300 {
		var path []int
		var told []api.Reply
		m := replayed(all, nil, 1)
		for range 60 {
			i := noise.below(len(all))
			e := all[i].m(m)
			r := m.Reply()
			r.Err = e
			path, told = append(path, i), append(told, r)
		}
		a, b := replayed(all, nil, 1), replayed(all, nil, 1)
		for k, i := range path {
			ea, eb := all[i].m(a), all[i].m(b)
			ra, rb := a.Reply(), b.Reply()
			ra.Err, rb.Err = ea, eb
			if ra != told[k] || rb != told[k] {
				t.Fatalf("%v, act %d: %+v and %+v; it was %+v", path, k, ra, rb, told[k])
			}
		}
	}
}
