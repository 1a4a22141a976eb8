package fold

import (
	"math"
	"slices"
	"testing"

	"switchback/api"
)

// kept is what a state looks like in a phase, with a switch so far, slot 0 active; all its numbers differ.
func kept(phase, far int) api.State {
	s := api.State{
		Phase: phase, Rev: [2]int{10, 20}, Want: [2]int{4, 6}, Passed: [2]bool{true, true},
		Delay: 7, Gen: 5, Switch: far, Flip: 9,
	}
	switch phase {
	case api.PStable:
		s.Rev[1], s.Want[1], s.Passed[1] = 0, 0, false
	case api.PPrewarm, api.PPreGate:
		s.Passed[1] = false
	}
	return s
}

// mirrored is the state with its slots changed one for the other.
func mirrored(s api.State) api.State {
	s.Active = 1 - s.Active
	s.Rev[0], s.Rev[1] = s.Rev[1], s.Rev[0]
	s.Want[0], s.Want[1] = s.Want[1], s.Want[0]
	s.Passed[0], s.Passed[1] = s.Passed[1], s.Passed[0]
	return s
}

// but is the state with something else in it.
func but(s api.State, change func(s *api.State)) api.State {
	change(&s)
	return s
}

// all are the phases, each with each switch that may be there, for either slot active.
func all() []api.State {
	var l []api.State
	for phase := range 8 {
		l = append(l, kept(phase, api.SNone))
		if phase == api.PCutover || phase == api.PRollback {
			l = append(l, kept(phase, api.SReady), kept(phase, api.SCommit))
		}
	}
	for _, s := range slices.Clone(l) {
		l = append(l, mirrored(s))
	}
	return l
}

// mayBe complains unless Right tells that of a state, and of its mirror.
func mayBe(t *testing.T, s api.State, want bool) {
	t.Helper()
	for _, x := range []api.State{s, mirrored(s)} {
		if Right(x) != want {
			t.Errorf("Right(%+v): %v", x, !want)
		}
	}
}

// comes complains unless a record makes the one state of the other, and likewise of their mirrors.
func comes(t *testing.T, s api.State, r api.Rec, want api.State) {
	t.Helper()
	for range 2 {
		if x, ok := Step(s, r); x != want || !ok {
			t.Errorf("Step(%+v, %+v): %+v, %v; want %+v", s, r, x, ok, want)
		}
		s, want = mirrored(s), mirrored(want)
	}
}

// cant complains unless a record can't come to a state, nor to its mirror.
func cant(t *testing.T, s api.State, r api.Rec) {
	t.Helper()
	for range 2 {
		if x, ok := Step(s, r); x != s || ok {
			t.Errorf("Step(%+v, %+v): %+v, %v; want the state as it was, and false", s, r, x, ok)
		}
		s = mirrored(s)
	}
}

// folded complains unless All makes this state of the records, of which so many came.
func folded(t *testing.T, s api.State, l []api.Rec, want api.State, came int) {
	t.Helper()
	given := slices.Clone(l)
	if x, n := All(s, l...); x != want || n != came {
		t.Errorf("All(%+v, %+v): %+v, %d; want %+v, %d", s, l, x, n, want, came)
	}
	if !slices.Equal(l, given) {
		t.Errorf("All changed what it was handed: %+v; it was %+v", l, given)
	}
}

// in30 is 1 to 2^30, as the chapter of layer 9 has it.
const in30 = 1073741824

// allowed is what the chapter says of a state that may be.
func allowed(s api.State) bool {
	for slot := range 2 {
		if s.Rev[slot] < 0 || s.Rev[slot] > in30 || s.Want[slot] < 0 || s.Want[slot] > 32 {
			return false
		}
	}
	if s.Phase < 0 || s.Phase > 7 || s.Active < 0 || s.Active > 1 || s.Delay < 0 || s.Delay > 65536 {
		return false
	}
	if s.Gen < 0 || s.Gen > 1048576 || s.Switch < 0 || s.Switch > 2 || s.Flip < 0 || s.Flip > in30 {
		return false
	}
	a, o := s.Active, 1-s.Active
	if s.Rev[a] == 0 || s.Want[a] == 0 || !s.Passed[a] {
		return false
	}
	switch s.Phase {
	case 0:
		if s.Rev[o] != 0 || s.Want[o] != 0 || s.Passed[o] {
			return false
		}
	case 1, 2:
		if s.Rev[o] == 0 || s.Want[o] == 0 || s.Rev[o] == s.Rev[a] || s.Passed[o] {
			return false
		}
	default:
		if s.Rev[o] == 0 || s.Want[o] == 0 || s.Rev[o] == s.Rev[a] || !s.Passed[o] {
			return false
		}
	}
	return s.Switch == 0 || (s.Phase == 3 || s.Phase == 6) && s.Gen > 0
}

// row is a line of the chapter's table: in which phases (all, if there are none), if what, then what.
type row struct {
	kind   int
	phases []int
	given  func(s api.State, r api.Rec) bool
	then   func(s *api.State, r api.Rec)
}

// rows are the lines of the chapter's table; no two hold at once.
func rows() []row {
	clear := func(s *api.State) {
		o := 1 - s.Active
		s.Rev[o], s.Want[o], s.Passed[o], s.Phase = 0, 0, false, 0
	}
	turn := map[int]int{3: 4, 6: 7}
	return []row{
		{1, []int{0, 1, 2}, func(s api.State, r api.Rec) bool {
			return r.Rev >= 1 && r.Rev <= in30 && r.N >= 1 && r.N <= 32 && r.Delay >= 0 && r.Delay <= 65536 &&
				r.Rev != s.Rev[s.Active] && s.Gen <= 1048574
		}, func(s *api.State, r api.Rec) {
			o := 1 - s.Active
			s.Rev[o], s.Want[o], s.Passed[o], s.Delay, s.Phase = r.Rev, r.N, false, r.Delay, 1
		}},
		{2, []int{1, 2}, nil, func(s *api.State, r api.Rec) { clear(s) }},
		{2, []int{3}, func(s api.State, r api.Rec) bool { return s.Switch == 0 }, func(s *api.State, r api.Rec) { clear(s) }},
		{2, []int{4, 5}, nil, func(s *api.State, r api.Rec) { s.Phase = 6 }},
		{3, []int{1}, nil, func(s *api.State, r api.Rec) { s.Phase = 2 }},
		{4, []int{2}, func(s api.State, r api.Rec) bool { return r.Pass }, func(s *api.State, r api.Rec) {
			s.Passed[1-s.Active] = true
			s.Phase = 3
		}},
		{4, []int{2}, func(s api.State, r api.Rec) bool { return !r.Pass }, func(s *api.State, r api.Rec) { clear(s) }},
		{5, []int{3, 6}, func(s api.State, r api.Rec) bool {
			return s.Switch == 0 && r.Gen-1 == s.Gen && r.Gen <= 1048576
		}, func(s *api.State, r api.Rec) { s.Gen, s.Switch = r.Gen, 1 }},
		{6, nil, func(s api.State, r api.Rec) bool { return s.Switch == 1 && r.Gen == s.Gen }, func(s *api.State, r api.Rec) { s.Switch = 2 }},
		{7, nil, func(s api.State, r api.Rec) bool { return s.Switch == 1 && r.Gen == s.Gen }, func(s *api.State, r api.Rec) {
			s.Gen, s.Switch = s.Gen-1, 0
		}},
		{8, nil, func(s api.State, r api.Rec) bool {
			return s.Switch == 2 && r.Gen == s.Gen && r.Tick >= 0 && r.Tick <= in30
		}, func(s *api.State, r api.Rec) {
			s.Active, s.Switch, s.Flip, s.Phase = 1-s.Active, 0, r.Tick, turn[s.Phase]
		}},
		{9, []int{4}, func(s api.State, r api.Rec) bool { return r.Pass }, func(s *api.State, r api.Rec) { s.Phase = 5 }},
		{9, []int{4}, func(s api.State, r api.Rec) bool { return !r.Pass }, func(s *api.State, r api.Rec) { s.Phase = 6 }},
		{10, []int{5, 7}, nil, func(s *api.State, r api.Rec) { clear(s) }},
	}
}

// asPromised is what P10.2 asks, by the lines of the table.
func asPromised(lines []row, s api.State, r api.Rec) (api.State, bool) {
	if !allowed(s) {
		return s, false
	}
	for _, x := range lines {
		if x.kind == r.Kind && (x.phases == nil || slices.Contains(x.phases, s.Phase)) && (x.given == nil || x.given(s, r)) {
			x.then(&s, r)
			return s, true
		}
	}
	return s, false
}

// source is a row of numbers that is the same at each run.
type source uint64

func (s *source) next() uint64 {
	*s = *s*6364136223846793005 + 1442695040888963407
	return uint64(*s >> 11)
}

func (s *source) below(n int) int { return int(s.next() % uint64(n)) }

func (s *source) one(l ...int) int { return l[s.below(len(l))] }

// state is one that may be, often at its ranges' ends.
func (s *source) state() api.State {
	x := kept(s.below(8), api.SNone)
	x.Rev[0] = s.one(1, 2, 3, in30-1, in30)
	x.Want[0] = s.one(1, 2, 31, 32)
	x.Delay = s.one(0, 1, 65535, 65536)
	x.Gen = s.one(0, 1, 2, 1048573, 1048574, 1048575, 1048576)
	x.Flip = s.one(0, 1, in30)
	if x.Phase != api.PStable {
		for x.Rev[1] = x.Rev[0]; x.Rev[1] == x.Rev[0]; {
			x.Rev[1] = s.one(1, 2, 3, in30-1, in30)
		}
		x.Want[1] = s.one(1, 2, 31, 32)
	}
	if x.Gen > 0 && (x.Phase == api.PCutover || x.Phase == api.PRollback) {
		x.Switch = s.below(3)
	}
	if s.below(2) == 1 {
		x = mirrored(x)
	}
	return x
}

// record is one that often can come to a state.
func (s *source) record(x api.State) api.Rec {
	return api.Rec{
		Kind:  s.below(13),
		Rev:   s.one(0, 1, 2, 3, 3, 4, 5, in30, in30+1),
		N:     s.one(0, 1, 2, 3, 4, 32, 33),
		Delay: s.one(-1, 0, 1, 2, 3, 65536, 65537),
		Gen:   x.Gen + s.one(-1, 0, 0, 0, 1, 1, 1, 2),
		Tick:  s.one(-1, 0, 1, 2, 3, in30, in30+1),
		Pass:  s.below(4) > 0,
		State: kept(s.below(8), api.SNone),
	}
}

// The document's example.
func TestExample(t *testing.T) {
	s, ok := First(1, 2)
	if !ok {
		t.Fatal("First(1, 2): false")
	}
	l := []api.Rec{
		{Kind: api.KDeploy, Rev: 2, N: 3}, {Kind: api.KWarm}, {Kind: api.KPre, Pass: true},
		{Kind: api.KPrepare, Gen: 1}, {Kind: api.KCommit, Gen: 1}, {Kind: api.KApplied, Gen: 1},
	}
	want := api.State{
		Phase: api.PPostGate, Active: 1, Rev: [2]int{1, 2}, Want: [2]int{2, 3}, Passed: [2]bool{true, true}, Gen: 1,
	}
	folded(t, s, l, want, 6)
	for _, r := range l {
		if s, ok = Step(s, r); !ok {
			t.Errorf("%+v can't come", r)
		}
	}
	if s != want {
		t.Errorf("%+v; want %+v", s, want)
	}
}

// P10.1: First at both ends of each range, one below and one above, and far from them.
func TestFirst(t *testing.T) {
	revs := map[int]bool{1: true, 2: true, in30 - 1: true, in30: true, 0: false, -1: false, in30 + 1: false, 1<<32 + 1: false, math.MinInt: false, math.MaxInt: false}
	counts := map[int]bool{1: true, 2: true, 31: true, 32: true, 0: false, -1: false, 33: false, 1<<32 + 1: false, math.MinInt: false, math.MaxInt: false}
	for rev, revIn := range revs {
		for n, nIn := range counts {
			want := api.State{}
			if revIn && nIn {
				want = api.State{Rev: [2]int{rev, 0}, Want: [2]int{n, 0}, Passed: [2]bool{true, false}}
			}
			s, ok := First(rev, n)
			if s != want || ok != (revIn && nIn) {
				t.Errorf("First(%d, %d): %+v, %v; want %+v, %v", rev, n, s, ok, want, revIn && nIn)
			}
			if ok && !Right(s) {
				t.Errorf("First(%d, %d) may not be", rev, n)
			}
		}
	}
}

// P10.1: a state of each phase, with each switch: just those that may be.
func TestRightPhases(t *testing.T) {
	for phase := range 8 {
		for far := range 3 {
			mayBe(t, kept(phase, far), far == api.SNone || phase == api.PCutover || phase == api.PRollback)
		}
	}
	mayBe(t, api.State{}, false)
}

// number is a field of a state with its range in a phase, for slot 0 active.
type number struct {
	name      string
	low, high int
	at        func(s *api.State) *int
}

// numbers are the fields of a state in a phase that don't tell which phase it is.
func numbers(phase, far int) []number {
	l := []number{
		{"the active Rev", 1, in30, func(s *api.State) *int { return &s.Rev[0] }},
		{"the active Want", 1, 32, func(s *api.State) *int { return &s.Want[0] }},
		{"Delay", 0, 65536, func(s *api.State) *int { return &s.Delay }},
		{"Gen", min(far, 1), 1048576, func(s *api.State) *int { return &s.Gen }},
		{"Flip", 0, in30, func(s *api.State) *int { return &s.Flip }},
	}
	otherRev, otherWant := in30, 32
	if phase == api.PStable {
		otherRev, otherWant = 0, 0
	}
	return append(l,
		number{"the other Rev", min(otherRev, 1), otherRev, func(s *api.State) *int { return &s.Rev[1] }},
		number{"the other Want", min(otherWant, 1), otherWant, func(s *api.State) *int { return &s.Want[1] }})
}

// P10.1: each number of a state at both ends of its range and beyond, in each phase.
func TestRightNumbers(t *testing.T) {
	for _, s := range all() {
		if s.Active == 1 {
			continue
		}
		for _, x := range numbers(s.Phase, s.Switch) {
			for _, n := range []int{x.low, x.high, min(x.low+1, x.high), max(x.low, x.high-1)} {
				mayBe(t, but(s, func(s *api.State) { *x.at(s) = n }), true)
			}
			for _, n := range []int{x.low - 1, x.high + 1, -1, -2, 1<<32 + x.low, -1 << 32, math.MinInt, math.MaxInt} {
				bad := but(s, func(s *api.State) { *x.at(s) = n })
				mayBe(t, bad, false)
				for kind := range 12 {
					cant(t, bad, api.Rec{Kind: kind, Rev: 30, N: 8, Gen: bad.Gen, Pass: true})
				}
			}
		}
	}
}

// P10.1: a phase, an active slot and a switch that there aren't.
func TestRightNames(t *testing.T) {
	for _, s := range all() {
		for _, n := range []int{-1, 8, 9, 256, 1 << 32, math.MinInt, math.MaxInt} {
			if bad := but(s, func(s *api.State) { s.Phase = n }); Right(bad) {
				t.Errorf("Right(%+v): true", bad)
			}
		}
		for _, n := range []int{-1, 2, 3, 256, 1 << 32, 1<<32 + 1, math.MinInt, math.MaxInt} {
			bad := but(s, func(s *api.State) { s.Active = n })
			if Right(bad) {
				t.Errorf("Right(%+v): true", bad)
			}
			if x, ok := Step(bad, api.Rec{Kind: api.KDeploy, Rev: 30, N: 8}); x != bad || ok {
				t.Errorf("Step of %+v: %+v, %v", bad, x, ok)
			}
		}
		for _, n := range []int{-1, 3, 4, 256, 1 << 32, 1<<32 + 1, math.MinInt, math.MaxInt} {
			if bad := but(s, func(s *api.State) { s.Switch = n }); Right(bad) {
				t.Errorf("Right(%+v): true", bad)
			}
		}
	}
}

// P10.1: each single thing that is asked of both slots, broken by itself, in each phase.
func TestRightSlots(t *testing.T) {
	for _, s := range all() {
		if s.Active == 1 {
			continue
		}
		mayBe(t, s, true)
		mayBe(t, but(s, func(s *api.State) { s.Rev[0] = 0 }), false)
		mayBe(t, but(s, func(s *api.State) { s.Want[0] = 0 }), false)
		mayBe(t, but(s, func(s *api.State) { s.Passed[0] = false }), false)
		mayBe(t, but(s, func(s *api.State) { s.Passed[1] = !s.Passed[1] }), false)
		mayBe(t, but(s, func(s *api.State) { s.Rev[1] = s.Rev[0] }), false)
		mayBe(t, but(s, func(s *api.State) { s.Active = 1 }), s.Phase > api.PPreGate)
		stable := s.Phase == api.PStable
		mayBe(t, but(s, func(s *api.State) { s.Rev[1] = 0 }), stable)
		mayBe(t, but(s, func(s *api.State) { s.Want[1] = 0 }), stable)
		mayBe(t, but(s, func(s *api.State) { s.Rev[1] = 30 }), !stable)
		mayBe(t, but(s, func(s *api.State) { s.Want[1] = 8 }), !stable)
		mayBe(t, but(s, func(s *api.State) { s.Want[1] = s.Want[0] }), !stable)
		mayBe(t, but(s, func(s *api.State) { s.Gen = 0 }), s.Switch == api.SNone)
	}
}

// P10.2: KDeploy in each phase that lets it, with what it changes, and what it leaves.
func TestDeploy(t *testing.T) {
	for _, phase := range []int{api.PStable, api.PPrewarm, api.PPreGate} {
		s := kept(phase, api.SNone)
		want := api.State{
			Phase: api.PPrewarm, Rev: [2]int{10, 30}, Want: [2]int{4, 8}, Passed: [2]bool{true, false}, Delay: 3, Gen: 5, Flip: 9,
		}
		r := api.Rec{Kind: api.KDeploy, Rev: 30, N: 8, Delay: 3}
		comes(t, s, r, want)
		deployEnds(t, s, r, want)
		for _, bad := range []api.Rec{
			{Rev: 10, N: 8, Delay: 3}, {Rev: 0, N: 8, Delay: 3}, {Rev: -1, N: 8, Delay: 3}, {Rev: in30 + 1, N: 8, Delay: 3},
			{Rev: 30, N: 0, Delay: 3}, {Rev: 30, N: -1, Delay: 3}, {Rev: 30, N: 33, Delay: 3},
			{Rev: 30, N: 8, Delay: -1}, {Rev: 30, N: 8, Delay: 65537},
			{Rev: math.MinInt, N: 8}, {Rev: math.MaxInt, N: 8}, {Rev: 30, N: math.MinInt}, {Rev: 30, N: math.MaxInt},
			{Rev: 30, N: 8, Delay: math.MinInt}, {Rev: 30, N: 8, Delay: math.MaxInt}, {Rev: 1<<32 + 30, N: 8}, {Rev: 30, N: 1<<32 + 8},
		} {
			bad.Kind = api.KDeploy
			cant(t, s, bad)
		}
		for _, gen := range []int{1048575, 1048576} {
			cant(t, but(s, func(s *api.State) { s.Gen = gen }), r)
		}
	}
}

// deployEnds: each field of a deploy, and the generation, at both ends of its range; the revision that the other slot has, too.
func deployEnds(t *testing.T, s api.State, r api.Rec, want api.State) {
	t.Helper()
	for _, rev := range []int{1, 2, 9, 11, 20, in30 - 1, in30} {
		r, want := r, want
		r.Rev, want.Rev[1] = rev, rev
		comes(t, s, r, want)
	}
	for _, n := range []int{1, 2, 4, 31, 32} {
		r, want := r, want
		r.N, want.Want[1] = n, n
		comes(t, s, r, want)
	}
	for _, delay := range []int{0, 1, 65535, 65536} {
		r, want := r, want
		r.Delay, want.Delay = delay, delay
		comes(t, s, r, want)
	}
	for _, gen := range []int{0, 1, 1048573, 1048574} {
		s, want := s, want
		s.Gen, want.Gen = gen, gen
		comes(t, s, r, want)
	}
}

// back is the state that is stable again, of one with slot 0 active.
func back() api.State {
	return api.State{Rev: [2]int{10, 0}, Want: [2]int{4, 0}, Passed: [2]bool{true, false}, Delay: 7, Gen: 5, Flip: 9}
}

// P10.2: KAbort ahead of the switch, and behind it.
func TestAbort(t *testing.T) {
	r := api.Rec{Kind: api.KAbort}
	for _, phase := range []int{api.PPrewarm, api.PPreGate, api.PCutover} {
		comes(t, kept(phase, api.SNone), r, back())
	}
	for _, phase := range []int{api.PPostGate, api.PDelay} {
		comes(t, kept(phase, api.SNone), r, kept(api.PRollback, api.SNone))
	}
	for _, far := range []int{api.SReady, api.SCommit} {
		cant(t, kept(api.PCutover, far), r)
		cant(t, kept(api.PRollback, far), r)
	}
	for _, phase := range []int{api.PStable, api.PRollback, api.PRetire} {
		cant(t, kept(phase, api.SNone), r)
	}
}

// P10.2: KWarm, both gates, and KScaled.
func TestGates(t *testing.T) {
	comes(t, kept(api.PPrewarm, api.SNone), api.Rec{Kind: api.KWarm}, kept(api.PPreGate, api.SNone))
	comes(t, kept(api.PPreGate, api.SNone), api.Rec{Kind: api.KPre, Pass: true}, kept(api.PCutover, api.SNone))
	comes(t, kept(api.PPreGate, api.SNone), api.Rec{Kind: api.KPre}, back())
	comes(t, kept(api.PPostGate, api.SNone), api.Rec{Kind: api.KPost, Pass: true}, kept(api.PDelay, api.SNone))
	comes(t, kept(api.PPostGate, api.SNone), api.Rec{Kind: api.KPost}, kept(api.PRollback, api.SNone))
	comes(t, kept(api.PDelay, api.SNone), api.Rec{Kind: api.KScaled}, back())
	comes(t, kept(api.PRetire, api.SNone), api.Rec{Kind: api.KScaled}, back())
}

// P10.2: KPrepare, with the next generation alone, at most the greatest.
func TestPrepare(t *testing.T) {
	for _, phase := range []int{api.PCutover, api.PRollback} {
		for _, gen := range []int{0, 1, 5, 1048574, 1048575} {
			s := but(kept(phase, api.SNone), func(s *api.State) { s.Gen = gen })
			want := but(kept(phase, api.SReady), func(s *api.State) { s.Gen = gen + 1 })
			comes(t, s, api.Rec{Kind: api.KPrepare, Gen: gen + 1}, want)
			for _, other := range []int{gen, gen - 1, gen + 2, -gen, -gen - 1, 1<<32 + gen + 1, math.MinInt, math.MaxInt} {
				cant(t, s, api.Rec{Kind: api.KPrepare, Gen: other})
			}
		}
		last := but(kept(phase, api.SNone), func(s *api.State) { s.Gen = 1048576 })
		for _, gen := range []int{1048575, 1048576, 1048577, 0, 1} {
			cant(t, last, api.Rec{Kind: api.KPrepare, Gen: gen})
		}
		for _, far := range []int{api.SReady, api.SCommit} {
			for _, gen := range []int{4, 5, 6} {
				cant(t, kept(phase, far), api.Rec{Kind: api.KPrepare, Gen: gen})
			}
		}
	}
}

// P10.2: KCommit, KCancel and KApplied, with the state's own generation alone.
func TestSwitch(t *testing.T) {
	for _, phase := range []int{api.PCutover, api.PRollback} {
		for _, gen := range []int{1, 2, 5, 1048575, 1048576} {
			at := func(far int) api.State { return but(kept(phase, far), func(s *api.State) { s.Gen = gen }) }
			comes(t, at(api.SReady), api.Rec{Kind: api.KCommit, Gen: gen}, at(api.SCommit))
			cancelled := but(at(api.SNone), func(s *api.State) { s.Gen-- })
			comes(t, at(api.SReady), api.Rec{Kind: api.KCancel, Gen: gen}, cancelled)
			for _, tick := range []int{0, 1, 9, in30 - 1, in30} {
				done := but(at(api.SNone), func(s *api.State) {
					s.Active, s.Flip, s.Phase = 1, tick, phase+1
				})
				comes(t, at(api.SCommit), api.Rec{Kind: api.KApplied, Gen: gen, Tick: tick}, done)
			}
			for _, tick := range []int{-1, in30 + 1, 1 << 32, math.MinInt, math.MaxInt} {
				cant(t, at(api.SCommit), api.Rec{Kind: api.KApplied, Gen: gen, Tick: tick})
			}
			for _, other := range []int{0, gen - 1, gen + 1, -gen, 1<<32 + gen, math.MinInt, math.MaxInt} {
				cant(t, at(api.SReady), api.Rec{Kind: api.KCommit, Gen: other})
				cant(t, at(api.SReady), api.Rec{Kind: api.KCancel, Gen: other})
				cant(t, at(api.SCommit), api.Rec{Kind: api.KApplied, Gen: other, Tick: 3})
			}
			for _, far := range []int{api.SNone, api.SCommit} {
				cant(t, at(far), api.Rec{Kind: api.KCommit, Gen: gen})
				cant(t, at(far), api.Rec{Kind: api.KCancel, Gen: gen})
			}
			for _, far := range []int{api.SNone, api.SReady} {
				cant(t, at(far), api.Rec{Kind: api.KApplied, Gen: gen, Tick: 3})
			}
		}
	}
}

// P10.2: the Kinds that can come in each phase with each switch, of records that fit; all others can't.
func TestEachKind(t *testing.T) {
	let := map[[2]int][]int{
		{api.PStable, api.SNone}:     {api.KDeploy},
		{api.PPrewarm, api.SNone}:    {api.KDeploy, api.KAbort, api.KWarm},
		{api.PPreGate, api.SNone}:    {api.KDeploy, api.KAbort, api.KPre},
		{api.PCutover, api.SNone}:    {api.KAbort, api.KPrepare},
		{api.PCutover, api.SReady}:   {api.KCommit, api.KCancel},
		{api.PCutover, api.SCommit}:  {api.KApplied},
		{api.PPostGate, api.SNone}:   {api.KAbort, api.KPost},
		{api.PDelay, api.SNone}:      {api.KAbort, api.KScaled},
		{api.PRollback, api.SNone}:   {api.KPrepare},
		{api.PRollback, api.SReady}:  {api.KCommit, api.KCancel},
		{api.PRollback, api.SCommit}: {api.KApplied},
		{api.PRetire, api.SNone}:     {api.KScaled},
	}
	for _, s := range all() {
		for kind := range 14 {
			came := false
			for _, gen := range []int{s.Gen, s.Gen + 1} {
				for _, pass := range []bool{false, true} {
					r := api.Rec{Kind: kind, Rev: 30, N: 8, Gen: gen, Tick: 3, Pass: pass, State: back()}
					x, ok := Step(s, r)
					came = came || ok
					if !ok && x != s {
						t.Errorf("Step(%+v, %+v): %+v, false", s, r, x)
					}
				}
			}
			if want := slices.Contains(let[[2]int{s.Phase, s.Switch}], kind); came != want {
				t.Errorf("Kind %d comes in phase %d with switch %d: %v", kind, s.Phase, s.Switch, came)
			}
		}
	}
}

// P10.2: KSnap can't come, nor a Kind that there isn't.
func TestNoKind(t *testing.T) {
	for _, s := range append(all(), api.State{}) {
		for _, kind := range []int{11, 0, 12, 13, -1, -2, 256, 257, 1<<32 + 1, 1<<32 + 3, math.MinInt, math.MinInt + 1, math.MaxInt} {
			for _, gen := range []int{s.Gen, s.Gen + 1} {
				cant(t, s, api.Rec{Kind: kind, Rev: 30, N: 8, Gen: gen, Pass: true})
				cant(t, s, api.Rec{Kind: kind, State: s})
				cant(t, s, api.Rec{Kind: kind, Gen: gen, State: back()})
			}
		}
	}
}

// P10.2: to a state that may not be nothing comes, though all that the table asks of it is there.
func TestNotRight(t *testing.T) {
	lines := rows()
	for _, s := range all() {
		for kind := range 12 {
			for _, gen := range []int{s.Gen, s.Gen + 1} {
				r := api.Rec{Kind: kind, Rev: 30, N: 8, Gen: gen, Tick: 3, Pass: true}
				if _, ok := asPromised(lines, s, r); !ok {
					continue
				}
				a, o := s.Active, 1-s.Active
				for _, spoil := range []func(s *api.State){
					func(s *api.State) { s.Rev[a] = 0 },
					func(s *api.State) { s.Want[a] = 33 },
					func(s *api.State) { s.Passed[a] = false },
					func(s *api.State) { s.Passed[o] = !s.Passed[o] },
					func(s *api.State) { s.Rev[o] = -1 },
					func(s *api.State) { s.Want[o] = -1 },
					func(s *api.State) { s.Delay = -1 },
					func(s *api.State) { s.Flip = -1 },
				} {
					cant(t, but(s, spoil), r)
				}
			}
		}
	}
}

// fieldsOf is which fields a record of a Kind has: the others are made zero.
func fieldsOf(r api.Rec) api.Rec {
	x := api.Rec{Kind: r.Kind}
	switch r.Kind {
	case api.KDeploy:
		x.Rev, x.N, x.Delay = r.Rev, r.N, r.Delay
	case api.KPre, api.KPost:
		x.Pass = r.Pass
	case api.KPrepare, api.KCommit, api.KCancel:
		x.Gen = r.Gen
	case api.KApplied:
		x.Gen, x.Tick = r.Gen, r.Tick
	case api.KSnap:
		x.State = r.State
	}
	return x
}

// P10.2: fields that a Kind hasn't play no part, be they whatever they are.
func TestOtherFields(t *testing.T) {
	s := source(1)
	came := 0
	for range 40000 {
		x := s.state()
		r := s.record(x)
		bare := fieldsOf(r)
		noise := api.Rec{
			Kind: r.Kind, Rev: int(s.next()) - 1<<52, N: -7, Delay: math.MinInt, Gen: math.MaxInt, Tick: -1, Pass: s.below(2) == 1,
			State: api.State{Phase: -1, Active: 9, Gen: -1},
		}
		full := fieldsOf(r)
		for _, other := range []api.Rec{r, over(full, noise)} {
			a, aOK := Step(x, bare)
			b, bOK := Step(x, other)
			if a != b || aOK != bOK {
				t.Fatalf("Step(%+v, %+v): %+v, %v; with %+v: %+v, %v", x, bare, a, aOK, other, b, bOK)
			}
			if aOK {
				came++
			}
		}
	}
	if came < 2000 {
		t.Errorf("%d records came: too few to tell", came)
	}
}

// over is a record with those fields of its Kind, and the others of noise.
func over(r, noise api.Rec) api.Rec {
	switch r.Kind {
	case api.KDeploy:
		noise.Rev, noise.N, noise.Delay = r.Rev, r.N, r.Delay
	case api.KPre, api.KPost:
		noise.Pass = r.Pass
	case api.KPrepare, api.KCommit, api.KCancel:
		noise.Gen = r.Gen
	case api.KApplied:
		noise.Gen, noise.Tick = r.Gen, r.Tick
	case api.KSnap:
		noise.State = r.State
	}
	return noise
}

// rollout are records that all come, from First(1, 2) on, through every Kind but KSnap and all phases.
func rollout() []api.Rec {
	return []api.Rec{
		{Kind: api.KDeploy, Rev: 2, N: 3, Delay: 4}, {Kind: api.KAbort},
		{Kind: api.KDeploy, Rev: 2, N: 3, Delay: 5}, {Kind: api.KWarm}, {Kind: api.KPre, Pass: true},
		{Kind: api.KPrepare, Gen: 1}, {Kind: api.KCancel, Gen: 1}, {Kind: api.KPrepare, Gen: 1}, {Kind: api.KCommit, Gen: 1},
		{Kind: api.KApplied, Gen: 1, Tick: 6}, {Kind: api.KPost, Pass: true}, {Kind: api.KScaled},
		{Kind: api.KDeploy, Rev: 3, N: 7, Delay: 8}, {Kind: api.KWarm}, {Kind: api.KPre, Pass: true},
		{Kind: api.KPrepare, Gen: 2}, {Kind: api.KCommit, Gen: 2}, {Kind: api.KApplied, Gen: 2, Tick: 9}, {Kind: api.KPost},
		{Kind: api.KPrepare, Gen: 3}, {Kind: api.KCommit, Gen: 3}, {Kind: api.KApplied, Gen: 3, Tick: 11}, {Kind: api.KScaled},
	}
}

// ends are the states behind the first i records of a rollout, one for each i.
func ends(t *testing.T) []api.State {
	t.Helper()
	s, _ := First(1, 2)
	l := []api.State{s}
	lines := rows()
	for _, r := range rollout() {
		var ok bool
		if s, ok = asPromised(lines, s, r); !ok {
			t.Fatalf("%+v can't come to %+v", r, s)
		}
		l = append(l, s)
	}
	return l
}

// P10.3: no record, and records that all come.
func TestAll(t *testing.T) {
	for _, s := range append(all(), api.State{}, api.State{Phase: 8, Active: -1}) {
		folded(t, s, nil, s, 0)
		folded(t, s, []api.Rec{}, s, 0)
	}
	states, l := ends(t), rollout()
	for i := range states {
		for j := i; j < len(states); j++ {
			folded(t, states[i], l[i:j], states[j], j-i)
		}
	}
	last := api.State{Active: 1, Rev: [2]int{0, 2}, Want: [2]int{0, 3}, Passed: [2]bool{false, true}, Delay: 8, Gen: 3, Flip: 11}
	folded(t, states[0], l, last, 23)
}

// P10.3: a record that can't come, at the beginning, in the middle and at the end, with such as could behind it.
func TestAllCant(t *testing.T) {
	states, l := ends(t), rollout()
	for i := range states {
		for _, bad := range []api.Rec{{}, {Kind: 12}, {Kind: -1}, {Kind: api.KDeploy}, {Kind: api.KPrepare, Gen: 9}, {Kind: api.KApplied, Gen: 9}} {
			folded(t, states[0], slices.Insert(slices.Clone(l), i, bad), states[i], i)
			folded(t, states[i], append([]api.Rec{bad}, l[i:]...), states[i], 0)
		}
	}
	folded(t, api.State{}, l, api.State{}, 0)
	wrong := but(states[0], func(s *api.State) { s.Delay = -1 })
	folded(t, wrong, l, wrong, 0)
}

// P10.3: KSnap first, of a state that may be, and of one that may not.
func TestAllSnap(t *testing.T) {
	states, l := ends(t), rollout()
	begins := append(all(), api.State{}, api.State{Phase: 8, Active: -1}, states[0])
	for i, snapped := range states {
		snap := api.Rec{Kind: api.KSnap, State: snapped}
		for _, s := range begins {
			folded(t, s, []api.Rec{snap}, snapped, 1)
			folded(t, s, append([]api.Rec{snap}, l[i:]...), states[len(states)-1], len(l)-i+1)
			folded(t, s, []api.Rec{snap, {}}, snapped, 1)
		}
		for _, s := range begins {
			for _, bad := range []func(s *api.State){
				func(s *api.State) { *s = api.State{} }, func(s *api.State) { s.Active = 2 }, func(s *api.State) { s.Gen = -1 },
				func(s *api.State) { s.Passed[s.Active] = false }, func(s *api.State) { s.Phase = 8 },
			} {
				folded(t, s, []api.Rec{{Kind: api.KSnap, State: but(snapped, bad)}}, s, 0)
				folded(t, s, append([]api.Rec{{Kind: api.KSnap, State: but(snapped, bad)}}, l...), s, 0)
				folded(t, s, []api.Rec{{Kind: api.KSnap, State: but(snapped, bad)}, snap}, s, 0)
			}
		}
	}
}

// P10.3: KSnap behind the first can't come, though its State may be; behind a KSnap neither.
func TestAllSnapBehind(t *testing.T) {
	states, l := ends(t), rollout()
	for i := 1; i < len(states); i++ {
		for _, snapped := range []api.State{states[i], back()} {
			snap := api.Rec{Kind: api.KSnap, State: snapped}
			folded(t, states[0], slices.Insert(slices.Clone(l), i, snap), states[i], i)
			folded(t, api.State{}, []api.Rec{{Kind: api.KSnap, State: states[i]}, snap, {Kind: api.KAbort}}, states[i], 1)
		}
	}
}

// P10.3: fields beside the State of a KSnap play no part.
func TestAllSnapFields(t *testing.T) {
	snap := api.Rec{Kind: api.KSnap, Rev: -1, N: 99, Delay: -1, Gen: -5, Tick: math.MaxInt, Pass: true, State: back()}
	folded(t, api.State{}, []api.Rec{snap}, back(), 1)
}

// held complains unless what P10.4 tells holds of a step.
func held(t *testing.T, s api.State, r api.Rec, next api.State) {
	t.Helper()
	if !Right(next) || !allowed(next) {
		t.Fatalf("Step(%+v, %+v): %+v may not be", s, r, next)
	}
	if (next.Active != s.Active) != (r.Kind == api.KApplied) {
		t.Fatalf("Step(%+v, %+v): %+v: the active slot", s, r, next)
	}
	if next.Gen < s.Gen && r.Kind != api.KCancel {
		t.Fatalf("Step(%+v, %+v): %+v: the generation falls", s, r, next)
	}
	a := s.Active
	if r.Kind != api.KApplied && (next.Want[a] != s.Want[a] || next.Rev[a] != s.Rev[a]) {
		t.Fatalf("Step(%+v, %+v): %+v: the active slot's Rev or Want", s, r, next)
	}
}

// P10.2 and P10.4: over many states that may be, and many records.
func TestStates(t *testing.T) {
	lines, s := rows(), source(2)
	came := map[int]int{}
	for range 300000 {
		x := s.state()
		if !allowed(x) || !Right(x) {
			t.Fatalf("%+v may not be", x)
		}
		r := s.record(x)
		next, ok := Step(x, r)
		if want, wantOK := asPromised(lines, x, r); next != want || ok != wantOK {
			t.Fatalf("Step(%+v, %+v): %+v, %v; want %+v, %v", x, r, next, ok, want, wantOK)
		}
		if ok {
			came[r.Kind]++
			held(t, x, r, next)
		}
	}
	for kind := api.KDeploy; kind <= api.KScaled; kind++ {
		if came[kind] < 100 {
			t.Errorf("%d records of Kind %d came: too few to tell", came[kind], kind)
		}
	}
}

// P10.1 and P10.2: over many states that may be, or may not.
func TestNearStates(t *testing.T) {
	lines, s := rows(), source(3)
	seen := map[bool]int{}
	for range 300000 {
		x := s.state()
		for range s.below(3) {
			near := []*int{&x.Phase, &x.Active, &x.Rev[0], &x.Rev[1], &x.Want[0], &x.Want[1], &x.Delay, &x.Gen, &x.Switch, &x.Flip}
			truth := []*bool{&x.Passed[0], &x.Passed[1]}
			if at := s.below(len(near) + 2); at < len(near) {
				*near[at] += s.one(-3, -2, -1, 1, 2, 3)
			} else {
				*truth[at-len(near)] = s.below(2) == 1
			}
		}
		if seen[allowed(x)]++; Right(x) != allowed(x) {
			t.Fatalf("Right(%+v): %v", x, Right(x))
		}
		r := s.record(x)
		next, ok := Step(x, r)
		if want, wantOK := asPromised(lines, x, r); next != want || ok != wantOK {
			t.Fatalf("Step(%+v, %+v): %+v, %v; want %+v, %v", x, r, next, ok, want, wantOK)
		}
	}
	if seen[true] < 10000 || seen[false] < 10000 {
		t.Errorf("%v: too few to tell", seen)
	}
}

// P10.3 and P10.4: over long ways from one state to the next; All tells what Step tells one by one.
func TestWalks(t *testing.T) {
	lines, s := rows(), source(4)
	phases := map[int]int{}
	for range 150 {
		begin, _ := First(1+s.below(3), 1+s.below(32))
		x := begin
		var l []api.Rec
		for range 4000 {
			r := s.record(x)
			next, ok := Step(x, r)
			if want, wantOK := asPromised(lines, x, r); next != want || ok != wantOK {
				t.Fatalf("Step(%+v, %+v): %+v, %v; want %+v, %v", x, r, next, ok, want, wantOK)
			}
			if ok {
				held(t, x, r, next)
				l = append(l, r)
				x = next
				phases[x.Phase]++
			}
		}
		folded(t, begin, l, x, len(l))
		folded(t, begin, append(l, api.Rec{Kind: api.KSnap, State: begin}), x, len(l))
	}
	for phase := range 8 {
		if phases[phase] < 80 {
			t.Errorf("phase %d was met %d times: too few to tell", phase, phases[phase])
		}
	}
}

// Rule 5: the records that All is handed stay as they are, and their spare room too.
func TestMemory(t *testing.T) {
	l := append(make([]api.Rec, 0, 64), rollout()...)
	spare := l[len(l):cap(l)]
	for i := range spare {
		spare[i] = api.Rec{Kind: 77, Rev: i}
	}
	s, _ := First(1, 2)
	All(s, l...)
	for i, r := range rollout() {
		if l[i] != r {
			t.Errorf("place %d: %+v; it was %+v", i, l[i], r)
		}
	}
	for i, r := range spare {
		if r != (api.Rec{Kind: 77, Rev: i}) {
			t.Errorf("spare place %d: %+v", i, r)
		}
	}
}

// Rule 6: what a call answers doesn't hang on those ahead of it.
func TestAgain(t *testing.T) {
	for range 3 {
		comes(t, kept(api.PPrewarm, api.SNone), api.Rec{Kind: api.KWarm}, kept(api.PPreGate, api.SNone))
		cant(t, kept(api.PPreGate, api.SNone), api.Rec{Kind: api.KWarm})
		folded(t, kept(api.PPreGate, api.SNone), []api.Rec{{Kind: api.KPre}, {Kind: api.KPre}}, back(), 1)
	}
}

// Lists as long as a program may be given come to their end.
func TestLong(t *testing.T) {
	s, _ := First(1, 2)
	var l []api.Rec
	for range 1 << 16 {
		l = append(l, api.Rec{Kind: api.KDeploy, Rev: 2, N: 3}, api.Rec{Kind: api.KAbort})
	}
	if x, n := All(s, l...); x != s || n != len(l) {
		t.Errorf("%+v, %d; want %+v, %d", x, n, s, len(l))
	}
}
