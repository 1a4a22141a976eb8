package model

import (
	"fmt"
	"slices"
	"testing"

	"switchback/api"
)

// in30 is 2^30, as the chapters have it: the greatest tick, and the greatest revision. in20 is 2^20: the greatest generation.
const (
	in30 = 1073741824
	in20 = 1048576
)

// paper is a controller without a disk by the words of this chapter and of those that it names, written out anew.
type paper struct {
	s      api.State
	ready  [2][32]bool // by slots, by replicas
	route  api.Cell
	script []int // what didn't come yet
	tries  int   // 1 to 8
	tick   int
}

// newPaper is nil, if the first state isn't right.
func newPaper(rev, n, tries int) (*paper, api.Errno) {
	if rev < 1 || rev > in30 || n < 1 || n > 32 {
		return nil, 1
	}
	p := &paper{tries: min(max(tries, 1), 8)}
	p.s.Rev[0], p.s.Want[0], p.s.Passed[0] = rev, n, true
	for i := range n {
		p.ready[0][i] = true
	}
	return p, 0
}

// op is may's Check, fold's Step of its record, and the fleet.
func (p *paper) op(o api.Op) api.Errno {
	if e := p.refusal(o); e != 0 {
		return e
	}
	other := 1 - p.s.Active
	switch {
	case o.Kind == 1:
		p.s.Rev[other], p.s.Want[other], p.s.Passed[other] = o.Rev, o.N, false
		p.s.Delay, p.s.Phase = o.Delay, 1
	case o.Kind == 4 && o.Pass:
		p.s.Passed[other], p.s.Phase = true, 3
	case o.Kind == 9 && o.Pass:
		p.s.Phase = 5
	case p.s.Phase == 4 || p.s.Phase == 5:
		p.s.Phase = 6
	default:
		p.alone()
	}
	p.setFleet()
	return 0
}

// refusal is why an operation may not be done; 0: it may.
func (p *paper) refusal(o api.Op) api.Errno {
	s := p.s
	for _, x := range []struct {
		kinds []int
		holds bool
		e     api.Errno
	}{
		{nil, !slices.Contains([]int{1, 2, 4, 9}, o.Kind), 6},
		{[]int{1, 4, 9}, o.Rev < 1 || o.Rev > in30, 1},
		{[]int{1}, o.N < 1 || o.N > 32 || o.Delay < 0 || o.Delay > 65536, 1},
		{[]int{1}, p.tick >= in30 || s.Gen > in20-2, 9},
		{[]int{1}, !slices.Contains([]int{0, 1, 2}, s.Phase), 7},
		{[]int{1}, o.Rev == s.Rev[s.Active], 8},
		{[]int{2}, !slices.Contains([]int{1, 2, 4, 5}, s.Phase) && (s.Phase != 3 || s.Switch != 0), 7},
		{[]int{4}, s.Phase != 2, 7},
		{[]int{9}, s.Phase != 4, 7},
		{[]int{4}, o.Rev != s.Rev[1-s.Active], 13},
		{[]int{9}, o.Rev != s.Rev[s.Active], 13},
	} {
		if x.holds && (x.kinds == nil || slices.Contains(x.kinds, o.Kind)) {
			return x.e
		}
	}
	return 0
}

// step is the chapter's, with all that plan, fold and client say of it.
func (p *paper) step(outcomes ...int) api.Errno {
	p.script = append(p.script, outcomes...)
	full := p.isFull(1 - p.s.Active)
	switch p.s.Phase {
	case 1:
		if full {
			p.s.Phase = 2
		}
	case 3, 6:
		return p.stepOfSwitch(full)
	case 5:
		if p.s.Delay == 0 || p.tick-p.s.Flip >= p.s.Delay {
			p.alone()
		}
	case 7:
		p.alone()
	}
	p.setFleet()
	return 0
}

func (p *paper) stepOfSwitch(full bool) api.Errno {
	switch {
	case p.s.Switch == 2:
	case p.s.Switch == 1 && !full:
		p.s.Gen, p.s.Switch = p.s.Gen-1, 0
		return 0
	case p.s.Switch == 1:
		p.s.Switch = 2
	case !full:
		return 0
	case p.s.Gen == in20:
		return 9
	default:
		p.s.Gen, p.s.Switch = p.s.Gen+1, 2
	}
	return p.set()
}

// set is client's Set of the other slot, and what is done if it tells OK.
func (p *paper) set() api.Errno {
	told := api.Errno(10)
	for n := 0; n < p.tries && told == 10; n++ {
		told = p.call(api.Cell{Slot: 1 - p.s.Active, Gen: p.s.Gen})
	}
	if told != 0 {
		return told
	}
	p.s.Active, p.s.Switch, p.s.Flip = 1-p.s.Active, 0, p.tick
	p.s.Phase = map[int]int{3: 4, 6: 7}[p.s.Phase]
	return 0
}

// call is the router's.
func (p *paper) call(to api.Cell) api.Errno {
	outcome := 0
	if len(p.script) > 0 {
		outcome, p.script = p.script[0], p.script[1:]
	}
	if outcome == 2 {
		return 10
	}
	if to.Gen > p.route.Gen {
		p.route = to
	}
	switch {
	case outcome == 1:
		return 10
	case p.route != to:
		return 11
	}
	return 0
}

// alone leaves nothing but the active slot.
func (p *paper) alone() {
	other := 1 - p.s.Active
	p.s.Rev[other], p.s.Want[other], p.s.Passed[other] = 0, 0, false
	p.s.Phase = 0
}

// setFleet leaves none ready that isn't wanted.
func (p *paper) setFleet() {
	for slot, n := range p.s.Want {
		clear(p.ready[slot][n:])
	}
}

func (p *paper) isFull(slot int) bool {
	return p.s.Want[slot] > 0 && p.count(slot) == p.s.Want[slot]
}

// count is how many of a slot are ready.
func (p *paper) count(slot int) int {
	n := 0
	for _, ready := range p.ready[slot] {
		if ready {
			n++
		}
	}
	return n
}

func (p *paper) setReady(slot, i int, ready bool) bool {
	if slot != 0 && slot != 1 || i < 0 || i >= p.s.Want[slot] {
		return false
	}
	p.ready[slot][i] = ready
	return true
}

func (p *paper) addTick(n int) {
	p.tick = min(p.tick+min(max(n, 0), in30), in30)
}

func (p *paper) reply() api.Reply {
	return api.Reply{
		Err: 0, State: p.s, Cell: p.route,
		View: api.View{Want: p.s.Want, Ready: [2]int{p.count(0), p.count(1)}},
		Up:   true, Tick: p.tick,
	}
}

// key tells one paper from all that are unlike it.
func (p *paper) key() string { return fmt.Sprintf("%+v", *p) }

// pair is a model, held against the paper at each call.
type pair struct {
	t   *testing.T
	m   *Model
	p   *paper
	did []string
}

// begun is a new pair.
func begun(t *testing.T, rev, n, tries int) *pair {
	t.Helper()
	m, e := New(rev, n, tries)
	p, want := newPaper(rev, n, tries)
	if e != want || (m == nil) != (p == nil) {
		t.Fatalf("New(%d, %d, %d): %v, %d; want %d", rev, n, tries, m, e, want)
	}
	x := &pair{t: t, m: m, p: p, did: []string{fmt.Sprintf("New(%d, %d, %d)", rev, n, tries)}}
	x.look()
	return x
}

// look complains unless the model stands as the paper does.
func (x *pair) look() {
	x.t.Helper()
	if got, want := x.m.Reply(), x.p.reply(); got != want {
		x.t.Fatalf("%s: %+v; want %+v", x.did, got, want)
	}
}

// told complains unless a call told this.
func (x *pair) told(what string, e, want api.Errno) {
	x.t.Helper()
	x.did = append(x.did, what)
	if e != want {
		x.t.Fatalf("%s: %d; want %d", x.did, e, want)
	}
	x.look()
}

func (x *pair) op(o api.Op) api.Errno {
	x.t.Helper()
	e := x.m.Op(o)
	x.told(fmt.Sprintf("Op(%+v)", o), e, x.p.op(o))
	return e
}

func (x *pair) step(outcomes ...int) api.Errno {
	x.t.Helper()
	e := x.m.Step(outcomes...)
	x.told(fmt.Sprintf("Step(%v)", outcomes), e, x.p.step(outcomes...))
	return e
}

func (x *pair) ready(slot, i int, ready bool) bool {
	x.t.Helper()
	x.did = append(x.did, fmt.Sprintf("Ready(%d, %d, %t)", slot, i, ready))
	got, want := x.m.Ready(slot, i, ready), x.p.setReady(slot, i, ready)
	if got != want {
		x.t.Fatalf("%s: %t", x.did, got)
	}
	x.look()
	return got
}

func (x *pair) tick(n int) {
	x.t.Helper()
	x.did = append(x.did, fmt.Sprintf("Tick(%d)", n))
	x.m.Tick(n)
	x.p.addTick(n)
	x.look()
}

// fill makes all of a slot ready.
func (x *pair) fill(slot int) {
	x.t.Helper()
	for i := range x.p.s.Want[slot] {
		x.ready(slot, i, true)
	}
}

// which complains unless just those of the paper are ready, by their numbers. It leaves them as they were.
func (x *pair) which() {
	x.t.Helper()
	for slot, n := range x.p.s.Want {
		for i := range n {
			was := x.p.ready[slot][i]
			x.ready(slot, i, !was)
			x.ready(slot, i, was)
		}
	}
}
