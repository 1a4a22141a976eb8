package may

import (
	"math"
	"slices"
	"testing"

	"switchback/api"
	"switchback/fold"
)

// in30 is 2^30, as the chapters have it: the greatest revision, and the tick from which on there is no deploy.
const in30 = 1073741824

// of is a state that may be, in a phase, with a switch so far, slot 0 active: its revision is 10, the other slot's is 20.
func of(phase, far int) api.State {
	s := api.State{
		Phase: phase, Rev: [2]int{10, 20}, Want: [2]int{4, 6}, Passed: [2]bool{true, phase > 2},
		Delay: 7, Gen: 5, Switch: far, Flip: 9,
	}
	if phase == 0 {
		s.Rev[1], s.Want[1] = 0, 0
	}
	return s
}

// turned is the state with its slots changed one for the other.
func turned(s api.State) api.State {
	slices.Reverse(s.Rev[:])
	slices.Reverse(s.Want[:])
	slices.Reverse(s.Passed[:])
	s.Active = 1 - s.Active
	return s
}

// all are the phases, each with each switch that may be there, for either slot active.
func all() []api.State {
	var l []api.State
	for phase := range 8 {
		for far := range 3 {
			if far == 0 || phase == 3 || phase == 6 {
				l = append(l, of(phase, far), turned(of(phase, far)))
			}
		}
	}
	return l
}

// tells complains unless Check tells this of a state, and of the one with its slots changed.
func tells(t *testing.T, s api.State, o api.Op, now int, want api.Errno) {
	t.Helper()
	for _, x := range []api.State{s, turned(s)} {
		if !fold.Right(x) {
			t.Fatalf("%+v may not be", x)
		}
		if got := Check(x, o, now); got != want {
			t.Errorf("Check(%+v, %+v, %d): %d; want %d", x, o, now, got, want)
		}
	}
}

// reason is one of those that the chapter names, and whether it applies.
type reason struct {
	e       api.Errno
	applies func(s api.State, o api.Op, now int) bool
}

// deployReasons are those of KDeploy, in the chapter's order.
func deployReasons() []reason {
	return []reason{
		{api.ErrRange, func(s api.State, o api.Op, now int) bool {
			return o.Rev < 1 || o.Rev > in30 || o.N < 1 || o.N > 32 || o.Delay < 0 || o.Delay > 65536
		}},
		{api.ErrOver, func(s api.State, o api.Op, now int) bool { return now >= in30 || s.Gen > 1048574 }},
		{api.ErrPhase, func(s api.State, o api.Op, now int) bool { return s.Phase < 0 || s.Phase > 2 }},
		{api.ErrTwice, func(s api.State, o api.Op, now int) bool { return o.Rev == s.Rev[s.Active] }},
	}
}

// gateReasons are those of KPre, or of KPost, in the chapter's order.
func gateReasons(phase int, slot func(s api.State) int) []reason {
	return []reason{
		{api.ErrRange, func(s api.State, o api.Op, now int) bool { return o.Rev < 1 || o.Rev > in30 }},
		{api.ErrPhase, func(s api.State, o api.Op, now int) bool { return s.Phase != phase }},
		{api.ErrRev, func(s api.State, o api.Op, now int) bool { return o.Rev != s.Rev[slot(s)] }},
	}
}

// reasons are the chapter's words, by Kinds.
func reasons() map[int][]reason {
	return map[int][]reason{
		1: deployReasons(),
		2: {{api.ErrPhase, func(s api.State, o api.Op, now int) bool {
			return !slices.Contains([]int{1, 2, 4, 5}, s.Phase) && (s.Phase != 3 || s.Switch != 0)
		}}},
		4: gateReasons(2, func(s api.State) int { return 1 - s.Active }),
		9: gateReasons(4, func(s api.State) int { return s.Active }),
	}
}

// asPromised is what P15.1 asks; with it, which reasons apply, by their places in the chapter.
func asPromised(words map[int][]reason, s api.State, o api.Op, now int) (api.Errno, []int) {
	l, there := words[o.Kind]
	if !there {
		return api.ErrKind, nil
	}
	var which []int
	for i, x := range l {
		if x.applies(s, o, now) {
			which = append(which, i)
		}
	}
	if len(which) == 0 {
		return api.OK, nil
	}
	return l[which[0]].e, which
}

// noKinds are numbers that none of the four Kinds has.
func noKinds() []int {
	return []int{
		0, 3, 5, 6, 7, 8, 10, 11, 12, 13, 255, 256, 257, 258, 260, 265, 1<<32 + 1, 1<<32 + 2, 1<<32 + 4, 1<<32 + 9,
		-1, -2, -4, -9, -256, math.MinInt32, math.MinInt, math.MinInt + 1, math.MaxInt32, math.MaxInt - 1, math.MaxInt,
	}
}

// The document's examples.
func TestExamples(t *testing.T) {
	stable := of(api.PStable, api.SNone)
	tells(t, stable, api.Op{Kind: api.KAbort}, 0, api.ErrPhase)
	tells(t, stable, api.Op{Kind: api.KDeploy, Rev: 10, N: 1}, 0, api.ErrTwice)
	if e := Check(api.State{Rev: [2]int{1, 0}, Want: [2]int{2, 0}, Passed: [2]bool{true, false}}, api.Op{Kind: api.KDeploy, Rev: 1, N: 2}, in30); e != api.ErrOver {
		t.Errorf("a deploy at 2^30: %d", e)
	}
	for far, want := range []api.Errno{api.OK, api.ErrPhase, api.ErrPhase} {
		tells(t, of(api.PCutover, far), api.Op{Kind: api.KAbort}, 0, want)
	}
}

// P15.1: a Kind that is none of the four, whatever else holds.
func TestNoKinds(t *testing.T) {
	for _, s := range all() {
		for _, kind := range noKinds() {
			for _, rev := range []int{0, 10, 20, 30, in30 + 1} {
				for _, now := range []int{0, in30} {
					tells(t, s, api.Op{Kind: kind, Rev: rev, N: 1, Pass: true}, now, api.ErrKind)
				}
			}
		}
		s.Gen = 1048576
		tells(t, s, api.Op{}, math.MaxInt, api.ErrKind)
	}
}

// P15.1: each of a deploy's fields at both ends of its range, and beyond.
func TestDeployRanges(t *testing.T) {
	beyond := []int{-1, -2, 1<<32 + 3, -1<<32 + 3, math.MinInt, math.MinInt + 3, math.MaxInt}
	for _, x := range []struct {
		low, high int
		at        func(o *api.Op) *int
	}{
		{1, in30, func(o *api.Op) *int { return &o.Rev }},
		{1, 32, func(o *api.Op) *int { return &o.N }},
		{0, 65536, func(o *api.Op) *int { return &o.Delay }},
	} {
		for phase := range 3 {
			o := api.Op{Kind: api.KDeploy, Rev: 30, N: 3, Delay: 3}
			for _, n := range []int{x.low, x.low + 1, x.high - 1, x.high} {
				*x.at(&o) = n
				tells(t, of(phase, 0), o, 0, api.OK)
			}
			for _, n := range append([]int{x.low - 1, x.high + 1}, beyond...) {
				*x.at(&o) = n
				tells(t, of(phase, 0), o, 0, api.ErrRange)
			}
		}
	}
	for _, rev := range []int{1, in30} {
		tells(t, of(api.PStable, 0), api.Op{Kind: api.KDeploy, Rev: rev, N: 32, Delay: 65536}, in30-1, api.OK)
	}
}

// P15.1: from 2^30 on there is no deploy, in whichever phase; ahead of it there is.
func TestDeployTicks(t *testing.T) {
	for phase := range 3 {
		o := api.Op{Kind: api.KDeploy, Rev: 30, N: 3, Delay: 3}
		for _, now := range []int{0, 1, in30 - 2, in30 - 1, -1, -in30, math.MinInt} {
			tells(t, of(phase, 0), o, now, api.OK)
		}
		for _, now := range []int{in30, in30 + 1, 1 << 32, math.MaxInt - 1, math.MaxInt} {
			tells(t, of(phase, 0), o, now, api.ErrOver)
		}
	}
}

// P15.1: a deploy asks for two generations that are free.
func TestDeployGens(t *testing.T) {
	for phase := range 3 {
		for gen, want := range map[int]api.Errno{
			0: api.OK, 1: api.OK, 1048573: api.OK, 1048574: api.OK, 1048575: api.ErrOver, 1048576: api.ErrOver,
		} {
			s := of(phase, 0)
			s.Gen = gen
			tells(t, s, api.Op{Kind: api.KDeploy, Rev: 30, N: 3}, 0, want)
			tells(t, s, api.Op{Kind: api.KDeploy, Rev: 30, N: 3}, in30, api.ErrOver)
		}
	}
}

// P15.1: in which phases a deploy may be done, and of whose revision.
func TestDeployPhases(t *testing.T) {
	for _, s := range all() {
		want := api.OK
		if s.Phase > 2 {
			want = api.ErrPhase
		}
		tells(t, s, api.Op{Kind: api.KDeploy, Rev: 20, N: 3}, 0, want)
		tells(t, s, api.Op{Kind: api.KDeploy, Rev: 30, N: 3}, 0, want)
		if s.Phase <= 2 {
			want = api.ErrTwice
		}
		tells(t, s, api.Op{Kind: api.KDeploy, Rev: 10, N: 3}, 0, want)
		tells(t, s, api.Op{Kind: api.KDeploy, Rev: 10, N: 4, Delay: 7}, 0, want)
	}
}

// P15.1: in which phases, and with which switch, an abort may be done; not the tick, and not the generation, plays a part.
func TestAbort(t *testing.T) {
	may := []bool{false, true, true, true, true, true, false, false}
	for _, s := range all() {
		want := api.ErrPhase
		if may[s.Phase] && s.Switch == api.SNone {
			want = api.OK
		}
		for _, gen := range []int{1, 5, 1048575, 1048576} {
			s.Gen = gen
			for _, now := range []int{math.MinInt, 0, in30, math.MaxInt} {
				tells(t, s, api.Op{Kind: api.KAbort}, now, want)
			}
		}
	}
}

// looks complains unless a gate may be told in the one phase alone, of the one revision alone, whatever it says, and whenever.
func looks(t *testing.T, kind, phase, whose int) {
	t.Helper()
	for _, s := range all() {
		for _, rev := range []int{1, 10, 20, 30, in30} {
			want := api.ErrPhase
			switch {
			case s.Phase == phase && rev == whose:
				want = api.OK
			case s.Phase == phase:
				want = api.ErrRev
			}
			for _, now := range []int{math.MinInt, 0, in30, math.MaxInt} {
				tells(t, s, api.Op{Kind: kind, Rev: rev, Pass: true}, now, want)
				tells(t, s, api.Op{Kind: kind, Rev: rev}, now, want)
			}
		}
		for _, bad := range []int{0, -1, -10, in30 + 1, 1<<32 + whose, -1<<32 + whose, math.MinInt, math.MaxInt} {
			tells(t, s, api.Op{Kind: kind, Rev: bad, Pass: true}, 0, api.ErrRange)
			tells(t, s, api.Op{Kind: kind, Rev: bad}, 0, api.ErrRange)
		}
	}
}

// P15.1: the gate ahead looks at the other slot, in PPreGate.
func TestPre(t *testing.T) { looks(t, api.KPre, api.PPreGate, 20) }

// P15.1: the gate behind looks at the active slot, in PPostGate.
func TestPost(t *testing.T) { looks(t, api.KPost, api.PPostGate, 10) }

// P15.1: a gate's revision at both ends of its range, where a slot has it, and the other one has the other end.
func TestGateEnds(t *testing.T) {
	for _, ends := range [][2]int{{1, in30}, {in30, 1}} {
		for _, x := range []struct{ kind, phase, slot int }{{api.KPre, api.PPreGate, 1}, {api.KPost, api.PPostGate, 0}} {
			s := of(x.phase, 0)
			s.Rev = ends
			tells(t, s, api.Op{Kind: x.kind, Rev: ends[x.slot], Pass: true}, 0, api.OK)
			tells(t, s, api.Op{Kind: x.kind, Rev: ends[1-x.slot], Pass: true}, 0, api.ErrRev)
			tells(t, s, api.Op{Kind: x.kind, Rev: 2}, 0, api.ErrRev)
			tells(t, s, api.Op{Kind: x.kind, Rev: 0}, 0, api.ErrRange)
			tells(t, s, api.Op{Kind: x.kind, Rev: in30 + 1}, 0, api.ErrRange)
		}
	}
}

// P15.1: each pair of reasons of a deploy that apply at once, and no third one.
func TestDeployPairs(t *testing.T) {
	late := func(phase int) api.State {
		s := of(phase, 0)
		s.Gen = 1048575
		return s
	}
	for _, x := range []struct {
		what string
		s    api.State
		o    api.Op
		now  int
		want api.Errno
	}{
		{"range, over by the tick", of(0, 0), api.Op{Rev: 0, N: 3}, in30, api.ErrRange},
		{"range, over by the tick", of(0, 0), api.Op{Rev: 30, N: 33}, in30, api.ErrRange},
		{"range, over by the tick", of(0, 0), api.Op{Rev: 30, N: 3, Delay: 65537}, in30, api.ErrRange},
		{"range, over by the generation", late(1), api.Op{Rev: in30 + 1, N: 3}, 0, api.ErrRange},
		{"range, over by the generation", late(1), api.Op{Rev: 30, N: 0}, 0, api.ErrRange},
		{"range, over by the generation", late(1), api.Op{Rev: 30, N: 3, Delay: -1}, 0, api.ErrRange},
		{"range, phase", of(3, 0), api.Op{Rev: 0, N: 3}, 0, api.ErrRange},
		{"range, phase", of(4, 0), api.Op{Rev: 30, N: 33}, 0, api.ErrRange},
		{"range, phase", of(7, 0), api.Op{Rev: 30, N: 3, Delay: -1}, 0, api.ErrRange},
		{"range, twice", of(0, 0), api.Op{Rev: 10, N: 0}, 0, api.ErrRange},
		{"range, twice", of(2, 0), api.Op{Rev: 10, N: 3, Delay: 65537}, 0, api.ErrRange},
		{"over by the tick, phase", of(3, 1), api.Op{Rev: 30, N: 3}, in30, api.ErrOver},
		{"over by the generation, phase", late(5), api.Op{Rev: 30, N: 3}, 0, api.ErrOver},
		{"over by the tick, twice", of(0, 0), api.Op{Rev: 10, N: 3}, in30, api.ErrOver},
		{"over by the generation, twice", late(2), api.Op{Rev: 10, N: 3}, 0, api.ErrOver},
		{"over by both", late(0), api.Op{Rev: 30, N: 3}, in30, api.ErrOver},
		{"phase, twice", of(3, 0), api.Op{Rev: 10, N: 3}, 0, api.ErrPhase},
		{"phase, twice", of(6, 2), api.Op{Rev: 10, N: 3}, 0, api.ErrPhase},
		{"all", late(4), api.Op{Rev: 10, N: 33, Delay: -1}, in30, api.ErrRange},
	} {
		x.o.Kind = api.KDeploy
		t.Run(x.what, func(t *testing.T) { tells(t, x.s, x.o, x.now, x.want) })
	}
}

// P15.1: each pair of reasons of a gate that apply at once; in PStable the other slot's revision is 0, which is no one's.
func TestGatePairs(t *testing.T) {
	for _, kind := range []int{api.KPre, api.KPost} {
		tells(t, of(api.PStable, 0), api.Op{Kind: kind, Rev: 0}, 0, api.ErrRange)
		tells(t, of(api.PCutover, 0), api.Op{Kind: kind, Rev: -20}, 0, api.ErrRange)
		tells(t, of(api.PCutover, 0), api.Op{Kind: kind, Rev: 30}, 0, api.ErrPhase)
		tells(t, of(api.PStable, 0), api.Op{Kind: kind, Rev: 20}, 0, api.ErrPhase)
		tells(t, of(api.PRetire, 0), api.Op{Kind: kind, Rev: 10}, 0, api.ErrPhase)
	}
	tells(t, of(api.PPreGate, 0), api.Op{Kind: api.KPre, Rev: in30 + 1}, 0, api.ErrRange)
	tells(t, of(api.PPostGate, 0), api.Op{Kind: api.KPost, Rev: 0}, 0, api.ErrRange)
	tells(t, of(api.PPreGate, 0), api.Op{Kind: api.KPost, Rev: 10}, 0, api.ErrPhase)
	tells(t, of(api.PPostGate, 0), api.Op{Kind: api.KPre, Rev: 20}, 0, api.ErrPhase)
}

// bare is an operation without the fields that its Kind hasn't.
func bare(o api.Op) api.Op {
	switch o.Kind {
	case 1:
		o.Pass = false
	case 4, 9:
		o.N, o.Delay = 0, 0
	default:
		o = api.Op{Kind: o.Kind}
	}
	return o
}

// P15.1, P15.2: a field that its Kind hasn't plays no part, whatever it is.
func TestStrangeFields(t *testing.T) {
	numbers := []int{math.MinInt, -1, 0, 1, 3, 10, 20, 33, 65537, in30 + 1, math.MaxInt}
	for _, s := range all() {
		for _, kind := range []int{1, 2, 4, 9, 0, 3} {
			for _, rev := range []int{0, 10, 20, 30} {
				for _, n := range numbers {
					for _, pass := range []bool{false, true} {
						o := api.Op{Kind: kind, Rev: rev, N: n, Delay: -n, Pass: pass}
						if kind == api.KAbort {
							o.Rev = n
						}
						if got, want := Check(s, o, 0), Check(s, bare(o), 0); got != want {
							t.Errorf("Check(%+v, %+v): %d; without what its Kind hasn't: %d", s, o, got, want)
						}
						if got, want := Record(o), Record(bare(o)); got != want {
							t.Errorf("Record(%+v): %+v; without what its Kind hasn't: %+v", o, got, want)
						}
					}
				}
			}
		}
	}
}

// P15.1: what isn't spoken of plays no part: how many are wanted, the delay, the last switch, and the gate that passed.
func TestOtherFieldsOfStates(t *testing.T) {
	for _, s := range all() {
		x := s
		x.Delay, x.Flip = 65536, in30
		x.Want[s.Active] = 32
		if s.Phase != api.PStable {
			x.Want[1-s.Active] = 1
		}
		for kind := range 12 {
			for _, rev := range []int{0, 10, 20, 30} {
				o := api.Op{Kind: kind, Rev: rev, N: 3, Delay: 3}
				if got, want := Check(x, o, 0), Check(s, o, 0); got != want {
					t.Errorf("Check(%+v, %+v): %d; of %+v: %d", x, o, got, s, want)
				}
			}
		}
	}
}

// P15.2: each Kind's record, of an operation of which each field differs, and of one with nothing in it.
func TestRecord(t *testing.T) {
	for _, pass := range []bool{false, true} {
		full := api.Op{Rev: 30, N: 8, Delay: 3, Pass: pass}
		for kind, want := range map[int]api.Rec{
			1: {Kind: 1, Rev: 30, N: 8, Delay: 3},
			2: {Kind: 2},
			4: {Kind: 4, Pass: pass},
			9: {Kind: 9, Pass: pass},
		} {
			full.Kind = kind
			if got := Record(full); got != want {
				t.Errorf("Record(%+v): %+v; want %+v", full, got, want)
			}
			if got := Record(api.Op{Kind: kind}); got != (api.Rec{Kind: kind}) {
				t.Errorf("Record of Kind %d alone: %+v", kind, got)
			}
		}
		for _, kind := range noKinds() {
			full.Kind = kind
			if got := Record(full); got != (api.Rec{Kind: kind}) {
				t.Errorf("Record(%+v): %+v; want its Kind alone", full, got)
			}
		}
	}
}

// P15.2: each field as it is handed in, in its range or not, by itself.
func TestRecordFields(t *testing.T) {
	for _, n := range []int{math.MinInt, -1, 0, 1, 32, 33, 65536, 65537, in30, in30 + 1, 1<<32 + 1, math.MaxInt} {
		for _, x := range []struct {
			o    api.Op
			want api.Rec
		}{
			{api.Op{Kind: 1, Rev: n}, api.Rec{Kind: 1, Rev: n}},
			{api.Op{Kind: 1, N: n}, api.Rec{Kind: 1, N: n}},
			{api.Op{Kind: 1, Delay: n}, api.Rec{Kind: 1, Delay: n}},
			{api.Op{Kind: 2, Rev: n, N: n, Delay: n}, api.Rec{Kind: 2}},
			{api.Op{Kind: 4, Rev: n, N: n, Delay: n, Pass: true}, api.Rec{Kind: 4, Pass: true}},
			{api.Op{Kind: 9, Rev: n, N: n, Delay: n, Pass: true}, api.Rec{Kind: 9, Pass: true}},
		} {
			if got := Record(x.o); got != x.want {
				t.Errorf("Record(%+v): %+v; want %+v", x.o, got, x.want)
			}
		}
	}
}

// seen counts what the checks came upon, so that none of it holds of nothing.
type seen struct {
	told  map[[2]int]int // by Kind and error
	pairs map[[3]int]int // by Kind and two reasons
}

func (x *seen) count(o api.Op, e api.Errno, which []int) {
	x.told[[2]int{o.Kind, int(e)}]++
	for i, first := range which {
		for _, second := range which[i+1:] {
			x.pairs[[3]int{o.Kind, first, second}]++
		}
	}
}

// enough complains unless each error, and each pair of reasons, came up for each Kind that has it.
func (x *seen) enough(t *testing.T, words map[int][]reason) {
	t.Helper()
	for kind, l := range words {
		for i, first := range l {
			if x.told[[2]int{kind, int(first.e)}] == 0 || x.told[[2]int{kind, 0}] == 0 {
				t.Errorf("Kind %d never told %d, or OK", kind, first.e)
			}
			for second := i + 1; second < len(l); second++ {
				if x.pairs[[3]int{kind, i, second}] == 0 {
					t.Errorf("Kind %d: reasons %d and %d never came together", kind, i, second)
				}
			}
		}
	}
}

// holds complains unless P15.1 and P15.3 hold of one state and one operation.
func holds(t *testing.T, words map[int][]reason, x *seen, s api.State, o api.Op, now int) {
	t.Helper()
	if !fold.Right(s) {
		t.Fatalf("%+v may not be", s)
	}
	want, which := asPromised(words, s, o, now)
	got := Check(s, o, now)
	if got != want {
		t.Fatalf("Check(%+v, %+v, %d): %d; want %d", s, o, now, got, want)
	}
	x.count(o, got, which)
	next, comes := fold.Step(s, Record(o))
	if got == api.OK && !comes {
		t.Fatalf("%+v may be done in %+v, but its record can't come", o, s)
	}
	if got == api.OK && !fold.Right(next) {
		t.Fatalf("%+v in %+v makes %+v, which may not be", o, s, next)
	}
}

// P15.1, P15.3: states of each phase, with each switch, and operations, at the ends of what is asked of them.
func TestAllAtTheEnds(t *testing.T) {
	words, x := reasons(), &seen{map[[2]int]int{}, map[[3]int]int{}}
	for _, s := range all() {
		for _, gen := range []int{0, 1, 1048573, 1048574, 1048575, 1048576} {
			if s.Gen = gen; !fold.Right(s) {
				continue
			}
			for _, rev := range []int{-1, 0, 1, 10, 20, 30, in30, in30 + 1} {
				for _, n := range []int{0, 1, 32, 33} {
					for _, delay := range []int{-1, 0, 65536, 65537} {
						for _, now := range []int{0, in30 - 1, in30} {
							holds(t, words, x, s, api.Op{Kind: api.KDeploy, Rev: rev, N: n, Delay: delay}, now)
						}
					}
				}
				for kind := range 13 {
					holds(t, words, x, s, api.Op{Kind: kind, Rev: rev, N: 3, Pass: true}, 0)
					holds(t, words, x, s, api.Op{Kind: kind, Rev: rev, N: 3}, in30)
				}
			}
		}
	}
	x.enough(t, words)
}

// source makes noise that is the same whenever the tests run.
type source uint64

func (s *source) below(n int) int {
	*s = *s*6364136223846793005 + 1442695040888963407
	return int(uint64(*s>>33) % uint64(n))
}

func (s *source) one(l ...int) int { return l[s.below(len(l))] }

// state is one that may be, often at its ranges' ends.
func (s *source) state() api.State {
	states := all()
	x := states[s.below(len(states))]
	x.Gen = s.one(1, 2, 1048573, 1048574, 1048575, 1048576)
	x.Delay = s.one(0, 1, 65536)
	x.Flip = s.one(0, 1, in30)
	x.Rev[x.Active] = s.one(1, 2, 3, in30)
	x.Want[x.Active] = 1 + s.below(32)
	if x.Phase != api.PStable {
		x.Rev[1-x.Active] = s.one(4, 5, in30-1)
		x.Want[1-x.Active] = 1 + s.below(32)
	}
	return x
}

// op is one that often may be done in a state.
func (s *source) op(x api.State) api.Op {
	return api.Op{
		Kind:  s.one(1, 1, 1, 2, 4, 4, 9, 9, s.below(13), -1, math.MinInt, math.MaxInt),
		Rev:   s.one(x.Rev[0], x.Rev[0], x.Rev[1], x.Rev[1], 6, 6, 1, in30, 0, in30+1, math.MinInt, math.MaxInt),
		N:     s.one(1, 2, 3, 32, 1+s.below(32), 0, 33, math.MaxInt),
		Delay: s.one(0, 1, 2, 65536, s.below(65537), -1, 65537, math.MinInt),
		Pass:  s.below(2) > 0,
	}
}

// P15.1, P15.3: many states and operations, held against the chapter's words.
func TestMany(t *testing.T) {
	words, x, noise := reasons(), &seen{map[[2]int]int{}, map[[3]int]int{}}, source(15)
	for range 100000 {
		s := noise.state()
		holds(t, words, x, s, noise.op(s), noise.one(0, 1, s.Flip, in30-1, in30-1, in30, in30+1, math.MinInt, math.MaxInt))
	}
	x.enough(t, words)
}

// P15.3: along rollouts from the beginning on; ahead of tick 2^30 a deploy or an abort that is refused has a record that can't come.
func TestAlong(t *testing.T) {
	words, x, noise := reasons(), &seen{map[[2]int]int{}, map[[3]int]int{}}, source(3)
	phases := map[int]int{}
	for range 200 {
		s, _ := fold.First(1, 2)
		s.Gen = noise.one(0, 1048572, 1048573)
		for range 200 {
			phases[s.Phase]++
			o := noise.op(s)
			holds(t, words, x, s, o, 0)
			next, comes := fold.Step(s, Record(o))
			e := Check(s, o, 0)
			if e != api.OK && comes && (o.Kind == api.KDeploy || o.Kind == api.KAbort) {
				t.Fatalf("%+v is refused in %+v by %d, but its record can come", o, s, e)
			}
			if e == api.OK {
				s = next
			}
			s = onward(&noise, s)
		}
	}
	x.enough(t, words)
	if len(phases) != 8 {
		t.Errorf("phases %v", phases)
	}
}

// onward is the state behind a record that no operation makes, if one can come.
func onward(noise *source, s api.State) api.State {
	for range 4 {
		r := api.Rec{Kind: noise.one(3, 5, 6, 7, 8, 10), Gen: s.Gen, Tick: noise.below(5)}
		if r.Kind == api.KPrepare {
			r.Gen++
		}
		if next, comes := fold.Step(s, r); comes {
			return next
		}
	}
	return s
}

// Of a state that may not be nothing is promised, but that the call ends, and tells one of the errors' numbers.
func TestNoStates(t *testing.T) {
	numbers := []int{math.MinInt, math.MinInt + 1, -1 << 32, -2, -1, 0, 1, 2, 3, 1 << 32, math.MaxInt - 1, math.MaxInt}
	for _, active := range numbers {
		for _, phase := range append([]int{2, 4, 8}, numbers...) {
			for _, rest := range numbers {
				s := api.State{Phase: phase, Active: active, Rev: [2]int{rest, 1}, Gen: rest, Switch: rest}
				for _, kind := range []int{1, 2, 4, 9, 0} {
					for _, rev := range []int{0, 1, rest} {
						e := Check(s, api.Op{Kind: kind, Rev: rev, N: 1}, 0)
						if e < api.OK || e > api.ErrOrder {
							t.Errorf("Check(%+v): %d", s, e)
						}
					}
				}
			}
		}
	}
}

// Rule 6: what is told hangs on what is handed in alone.
func TestAgain(t *testing.T) {
	noise, again := source(6), source(6)
	first := map[int]api.Errno{}
	for i := range 2000 {
		s := noise.state()
		first[i] = Check(s, noise.op(s), 0)
	}
	for i := range 2000 {
		s := again.state()
		if e := Check(s, again.op(s), 0); e != first[i] {
			t.Fatalf("call %d: %d, then %d", i, first[i], e)
		}
	}
}
