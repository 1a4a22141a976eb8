package intent

import (
	"encoding/binary"
	"math"
	"slices"
	"strings"
	"testing"

	"switchback/api"
	"switchback/code"
)

// spot is a field of a record: its name, its range, and how it is set.
type spot struct {
	name      string
	low, high int
	set       func(r *api.Rec, n int)
	isBool    bool
}

// spots are all the fields that there are, with their ranges written out.
func spots() []spot {
	number := func(name string, low, high int, at func(r *api.Rec) *int) spot {
		return spot{name, low, high, func(r *api.Rec, n int) { *at(r) = n }, false}
	}
	truth := func(name string, at func(r *api.Rec) *bool) spot {
		return spot{name, 0, 1, func(r *api.Rec, n int) { *at(r) = n == 1 }, true}
	}
	return []spot{
		number("Rev", 1, 1073741824, func(r *api.Rec) *int { return &r.Rev }),
		number("N", 1, 32, func(r *api.Rec) *int { return &r.N }),
		number("Delay", 0, 65536, func(r *api.Rec) *int { return &r.Delay }),
		number("Gen", 1, 1048576, func(r *api.Rec) *int { return &r.Gen }),
		number("Tick", 0, 1073741824, func(r *api.Rec) *int { return &r.Tick }),
		truth("Pass", func(r *api.Rec) *bool { return &r.Pass }),
		number("State.Phase", 0, 7, func(r *api.Rec) *int { return &r.State.Phase }),
		number("State.Active", 0, 1, func(r *api.Rec) *int { return &r.State.Active }),
		number("State.Rev[0]", 0, 1073741824, func(r *api.Rec) *int { return &r.State.Rev[0] }),
		number("State.Rev[1]", 0, 1073741824, func(r *api.Rec) *int { return &r.State.Rev[1] }),
		number("State.Want[0]", 0, 32, func(r *api.Rec) *int { return &r.State.Want[0] }),
		number("State.Want[1]", 0, 32, func(r *api.Rec) *int { return &r.State.Want[1] }),
		truth("State.Passed[0]", func(r *api.Rec) *bool { return &r.State.Passed[0] }),
		truth("State.Passed[1]", func(r *api.Rec) *bool { return &r.State.Passed[1] }),
		number("State.Delay", 0, 65536, func(r *api.Rec) *int { return &r.State.Delay }),
		number("State.Gen", 0, 1048576, func(r *api.Rec) *int { return &r.State.Gen }),
		number("State.Switch", 0, 2, func(r *api.Rec) *int { return &r.State.Switch }),
		number("State.Flip", 0, 1073741824, func(r *api.Rec) *int { return &r.State.Flip }),
	}
}

// kind is a Kind with the fields that it has, and those that it hasn't.
type kind struct {
	kind           int
	fields, others []spot
}

// kinds are all the Kinds that there are.
func kinds() []kind {
	var l []kind
	for i, names := range []string{
		"Rev N Delay", "", "", "Pass", "Gen", "Gen", "Gen", "Gen Tick", "Pass", "",
		"State.Phase State.Active State.Rev[0] State.Rev[1] State.Want[0] State.Want[1] State.Passed[0] State.Passed[1] State.Delay State.Gen State.Switch State.Flip",
	} {
		k := kind{kind: i + 1}
		for _, x := range spots() {
			if slices.Contains(strings.Fields(names), x.name) {
				k.fields = append(k.fields, x)
			} else {
				k.others = append(k.others, x)
			}
		}
		l = append(l, k)
	}
	return l
}

// record is a record of this Kind with these numbers for its fields.
func (k kind) record(l []int) api.Rec {
	r := api.Rec{Kind: k.kind}
	for i, x := range k.fields {
		x.set(&r, l[i])
	}
	return r
}

// least are the fields' least numbers; most, their greatest ones.
func (k kind) least() []int {
	var l []int
	for _, x := range k.fields {
		l = append(l, x.low)
	}
	return l
}

func (k kind) most() []int {
	var l []int
	for _, x := range k.fields {
		l = append(l, x.high)
	}
	return l
}

// with is a copy of a list that has another number at a place.
func with(l []int, at, n int) []int {
	l = slices.Clone(l)
	l[at] = n
	return l
}

// asWords are a Kind and numbers as bytes by the library's own way to put groups of seven bits.
func asWords(kind int, l ...int) string {
	b := binary.AppendUvarint(nil, uint64(kind))
	for _, n := range l {
		b = binary.AppendUvarint(b, uint64(n))
	}
	return string(b)
}

// both complains unless Put makes these bytes of the record, and Get the record of the bytes.
func both(t *testing.T, r api.Rec, b string) {
	t.Helper()
	if x, e := Put(r); x != b || e != api.OK {
		t.Errorf("Put(%+v): % X, %d; want % X", r, x, e, b)
	}
	if x, e := Get(b); x != r || e != api.OK {
		t.Errorf("Get(% X): %+v, %d; want %+v", b, x, e, r)
	}
}

// refused complains unless Put tells this error, and no byte.
func refused(t *testing.T, r api.Rec, want api.Errno) {
	t.Helper()
	if b, e := Put(r); b != "" || e != want {
		t.Errorf("Put(%+v): % X, %d; want no byte, and %d", r, b, e, want)
	}
}

// wrong complains unless Get tells this error, and the zero record.
func wrong(t *testing.T, b string, want api.Errno) {
	t.Helper()
	if r, e := Get(b); r != (api.Rec{}) || e != want {
		t.Errorf("Get(% X): %+v, %d; want the zero record, and %d", b, r, e, want)
	}
}

// source is a row of numbers that is the same at each run.
type source uint64

func (s *source) next() uint64 {
	*s = *s*6364136223846793005 + 1442695040888963407
	return uint64(*s >> 11)
}

// upTo is a number from low to high, often one of the two.
func (s *source) upTo(low, high int) int {
	switch s.next() % 4 {
	case 0:
		return low
	case 1:
		return high
	default:
		return low + int(s.next()%uint64(high-low+1))
	}
}

func (s *source) fields(k kind) []int {
	var l []int
	for _, x := range k.fields {
		l = append(l, s.upTo(x.low, x.high))
	}
	return l
}

// The document's examples.
func TestExample(t *testing.T) {
	both(t, api.Rec{Kind: api.KDeploy, Rev: 300, N: 2}, "\x01\xac\x02\x02\x00")
	both(t, api.Rec{Kind: api.KAbort}, "\x02")
}

// P9.1 and P9.2: a record of each Kind, with its bytes written out.
func TestEachKind(t *testing.T) {
	both(t, api.Rec{Kind: api.KDeploy, Rev: 1 << 30, N: 32, Delay: 1 << 16}, "\x01\x80\x80\x80\x80\x04\x20\x80\x80\x04")
	both(t, api.Rec{Kind: api.KAbort}, "\x02")
	both(t, api.Rec{Kind: api.KWarm}, "\x03")
	both(t, api.Rec{Kind: api.KPre}, "\x04\x00")
	both(t, api.Rec{Kind: api.KPre, Pass: true}, "\x04\x01")
	both(t, api.Rec{Kind: api.KPrepare, Gen: 1 << 20}, "\x05\x80\x80\x40")
	both(t, api.Rec{Kind: api.KCommit, Gen: 127}, "\x06\x7f")
	both(t, api.Rec{Kind: api.KCancel, Gen: 128}, "\x07\x80\x01")
	both(t, api.Rec{Kind: api.KApplied, Gen: 3, Tick: 1 << 30}, "\x08\x03\x80\x80\x80\x80\x04")
	both(t, api.Rec{Kind: api.KPost}, "\x09\x00")
	both(t, api.Rec{Kind: api.KPost, Pass: true}, "\x09\x01")
	both(t, api.Rec{Kind: api.KScaled}, "\x0a")
	both(t, api.Rec{Kind: api.KSnap}, "\x0b"+strings.Repeat("\x00", 12))
	both(t, api.Rec{Kind: api.KSnap, State: api.State{
		Phase: 7, Active: 1, Rev: [2]int{300, 4}, Want: [2]int{5, 6}, Passed: [2]bool{false, true},
		Delay: 128, Gen: 8, Switch: 2, Flip: 9,
	}}, "\x0b\x07\x01\xac\x02\x04\x05\x06\x00\x01\x80\x01\x08\x02\x09")
}

// P9.1 and P9.2: each field of each Kind at both ends of its range, the others at their least and at their greatest.
func TestEnds(t *testing.T) {
	for _, k := range kinds() {
		for _, l := range [][]int{k.least(), k.most()} {
			both(t, k.record(l), asWords(k.kind, l...))
			for i, x := range k.fields {
				for _, n := range []int{x.low, min(x.low+1, x.high), max(x.low, x.high-1), x.high} {
					both(t, k.record(with(l, i, n)), asWords(k.kind, with(l, i, n)...))
				}
			}
		}
	}
}

// P9.1: each field of each Kind one below and one above its range, and far from it.
func TestPutOutside(t *testing.T) {
	for _, k := range kinds() {
		for _, l := range [][]int{k.least(), k.most()} {
			for i, x := range k.fields {
				if x.isBool {
					continue
				}
				for _, n := range []int{x.low - 1, x.high + 1, -1, math.MinInt, math.MaxInt, 1 << 32, -1 << 32} {
					refused(t, k.record(with(l, i, n)), api.ErrRange)
				}
			}
		}
	}
}

// noKinds are numbers that are no Kind.
func noKinds() []int {
	return []int{0, 12, 13, 127, 128, 129, 139, 256, 257, 1 << 32, 1<<32 + 1, math.MaxInt - 1, math.MaxInt}
}

// P9.1: a Kind that there isn't, whatever fields stand beside it.
func TestPutNoKind(t *testing.T) {
	for _, n := range append(noKinds(), -1, -2, -11, -256, math.MinInt, math.MinInt+1) {
		refused(t, api.Rec{Kind: n}, api.ErrKind)
		for _, k := range kinds() {
			for _, l := range [][]int{k.least(), k.most()} {
				r := k.record(l)
				r.Kind = n
				refused(t, r, api.ErrKind)
			}
		}
		refused(t, api.Rec{Kind: n, Rev: -1, Tick: math.MaxInt, State: api.State{Phase: 8}}, api.ErrKind)
	}
}

// P9.1: each field that a Kind hasn't, not zero: in the range that it has elsewhere, and outside of it.
func TestPutOtherField(t *testing.T) {
	for _, k := range kinds() {
		for _, l := range [][]int{k.least(), k.most()} {
			for _, x := range k.others {
				for _, n := range []int{1, -1, x.high, x.high + 1, math.MinInt, math.MaxInt} {
					if x.isBool {
						n = 1
					}
					r := k.record(l)
					x.set(&r, n)
					refused(t, r, api.ErrForm)
				}
			}
		}
	}
}

// P9.1: where a field that the Kind hasn't isn't zero, and one that it has is outside its range, ErrForm is told.
func TestPutFormFirst(t *testing.T) {
	for _, k := range kinds() {
		for i, own := range k.fields {
			if own.isBool {
				continue
			}
			for _, n := range []int{own.low - 1, own.high + 1} {
				for _, x := range k.others {
					r := k.record(with(k.least(), i, n))
					x.set(&r, 1)
					refused(t, r, api.ErrForm)
				}
			}
		}
	}
}

// P9.1: fields that cancel each other out in a sum are told all the same.
func TestPutTwoOthers(t *testing.T) {
	refused(t, api.Rec{Kind: api.KAbort, Rev: 1, N: -1}, api.ErrForm)
	refused(t, api.Rec{Kind: api.KSnap, Gen: 1, Tick: -1}, api.ErrForm)
	refused(t, api.Rec{Kind: api.KPre, State: api.State{Rev: [2]int{1, -1}}}, api.ErrForm)
}

// P9.2: no byte, and a first number that is no Kind, whatever numbers stand behind it.
func TestGetNoKind(t *testing.T) {
	wrong(t, "", api.ErrKind)
	for _, n := range noKinds() {
		wrong(t, asWords(n), api.ErrKind)
		for _, k := range kinds() {
			wrong(t, asWords(n, k.least()...), api.ErrKind)
			wrong(t, asWords(n, k.most()...), api.ErrKind)
			wrong(t, asWords(n, append(k.most(), math.MaxInt)...), api.ErrKind)
		}
	}
}

// P9.2: bytes that code.Get refuses, ahead of all that else is wrong.
func TestGetBadBytes(t *testing.T) {
	bad := []string{"\x80", "\xff\xff", strings.Repeat("\x80", 8), "\x80\x00", "\x81\x80\x00", strings.Repeat("\xff", 9), strings.Repeat("\x80", 20)}
	for _, x := range bad {
		_, want := code.Get(x)
		if want == api.OK {
			t.Fatalf("code.Get(% X): OK", x)
		}
		wrong(t, x, want)
		for _, k := range kinds() {
			wrong(t, asWords(k.kind)+x, want)
			wrong(t, asWords(k.kind, k.least()...)+x, want)
			for i := range k.fields {
				wrong(t, asWords(k.kind, k.least()[:i]...)+x, want)
				wrong(t, asWords(k.kind, with(k.least(), i, math.MaxInt)...)+x, want)
			}
		}
		for _, n := range noKinds() {
			wrong(t, asWords(n)+x, want)
		}
	}
	wrong(t, "\x81\x00", api.ErrLong)
	wrong(t, "\x82\x00", api.ErrLong)
}

// P9.2: each Kind with too few numbers, and with too many, in their ranges or not.
func TestGetCount(t *testing.T) {
	for _, k := range kinds() {
		for _, l := range [][]int{k.least(), k.most()} {
			for i := range k.fields {
				wrong(t, asWords(k.kind, l[:i]...), api.ErrForm)
			}
			for _, more := range [][]int{{0}, {1}, {math.MaxInt}, {0, 0}, slices.Repeat([]int{1}, 100)} {
				wrong(t, asWords(k.kind, append(slices.Clone(l), more...)...), api.ErrForm)
			}
			for i, x := range k.fields {
				out := with(l, i, x.high+1)
				wrong(t, asWords(k.kind, append(out, 0)...), api.ErrForm)
				if len(out) > 1 {
					wrong(t, asWords(k.kind, slices.Delete(out, (i+1)%len(out), (i+1)%len(out)+1)...), api.ErrForm)
				}
			}
		}
	}
}

// P9.2: each number below and above its range, a bool of 2 among them.
func TestGetOutside(t *testing.T) {
	for _, k := range kinds() {
		for _, l := range [][]int{k.least(), k.most()} {
			for i, x := range k.fields {
				for _, n := range []int{x.high + 1, x.high + 2, 1 << 32, 1<<32 + x.low, math.MaxInt} {
					wrong(t, asWords(k.kind, with(l, i, n)...), api.ErrRange)
				}
				if x.low > 0 {
					wrong(t, asWords(k.kind, with(l, i, x.low-1)...), api.ErrRange)
				}
			}
		}
	}
	wrong(t, "\x04\x02", api.ErrRange)
	wrong(t, "\x09\x02", api.ErrRange)
	wrong(t, "\x0b\x00\x00\x00\x00\x00\x00\x02\x00\x00\x00\x00\x00", api.ErrRange)
	wrong(t, "\x0b\x00\x00\x00\x00\x00\x00\x00\x02\x00\x00\x00\x00", api.ErrRange)
}

// asPromised is what P9.2 asks of bytes, held against the ranges as they are written out above.
func asPromised(all []kind, b string) (api.Rec, api.Errno) {
	l, e := code.Get(b)
	switch {
	case e != api.OK:
		return api.Rec{}, e
	case len(l) == 0, l[0] < 1, l[0] > len(all):
		return api.Rec{}, api.ErrKind
	}
	k := all[l[0]-1]
	if len(l) != 1+len(k.fields) {
		return api.Rec{}, api.ErrForm
	}
	for i, x := range k.fields {
		if l[i+1] < x.low || l[i+1] > x.high {
			return api.Rec{}, api.ErrRange
		}
	}
	return k.record(l[1:]), api.OK
}

// look complains unless Get tells of bytes what P9.2 asks, and Put makes them again of what is got.
func look(t *testing.T, all []kind, seen map[api.Errno]int, b string) {
	t.Helper()
	r, e := Get(b)
	seen[e]++
	if want, wantE := asPromised(all, b); r != want || e != wantE {
		t.Fatalf("Get(% X): %+v, %d; want %+v, %d", b, r, e, want, wantE)
	}
	if e != api.OK {
		return
	}
	if again, e := Put(r); again != b || e != api.OK {
		t.Fatalf("Get(% X): %+v; put again: % X, %d", b, r, again, e)
	}
}

// P9.3: what is put is got, over many records of each Kind; none has more than 42 bytes.
func TestPutIsGot(t *testing.T) {
	s := source(1)
	for _, k := range kinds() {
		for range 2000 {
			l := s.fields(k)
			b := asWords(k.kind, l...)
			both(t, k.record(l), b)
			if len(b) > 42 {
				t.Fatalf("% X: %d bytes", b, len(b))
			}
		}
	}
}

// P9.3: what is got is put as it was, over all texts of up to two bytes, and many that are nearly records.
func TestGotIsPut(t *testing.T) {
	all, seen := kinds(), map[api.Errno]int{}
	for x := range 256 {
		look(t, all, seen, string([]byte{byte(x)}))
		for y := range 256 {
			look(t, all, seen, string([]byte{byte(x), byte(y)}))
		}
	}
	s := source(2)
	for round := range 60000 {
		k := all[round%len(all)]
		b := []byte(asWords(k.kind, s.fields(k)...))
		for range s.next() % 3 {
			at := int(s.next() % uint64(len(b)))
			switch s.next() % 4 {
			case 0:
				b[at] = byte(s.next())
			case 1:
				b[at] ^= 1 << (s.next() % 8)
			case 2:
				b = slices.Insert(b, at, byte(s.next()))
			case 3:
				if len(b) > 1 {
					b = slices.Delete(b, at, at+1)
				}
			}
		}
		look(t, all, seen, string(b))
	}
	for _, e := range []api.Errno{api.OK, api.ErrRange, api.ErrForm, api.ErrLong, api.ErrKind} {
		if seen[e] < 500 {
			t.Errorf("%d texts with answer %d: too few to tell", seen[e], e)
		}
	}
}

// P9.3: over noise, too.
func TestNoise(t *testing.T) {
	all, seen := kinds(), map[api.Errno]int{}
	s := source(3)
	for round := range 60000 {
		b := make([]byte, round%16)
		for i := range b {
			b[i] = byte(s.next()) & (1<<(s.next()%9) - 1)
		}
		look(t, all, seen, string(b))
	}
}

// P9.1, P9.2 and P9.3: records whose fields are anything are put just if their bytes would be got.
func TestPutAsPromised(t *testing.T) {
	s := source(4)
	all, seen := kinds(), map[api.Errno]int{}
	for range 60000 {
		k := all[s.next()%uint64(len(all))]
		l := s.fields(k)
		for i, x := range k.fields {
			if s.next()%8 == 0 {
				l[i] = x.high + int(s.next()%3)
			}
			if s.next()%8 == 0 {
				l[i] = x.low - int(s.next()%3)
			}
		}
		r, want := k.record(l), api.OK
		for i, x := range k.fields {
			if !x.isBool && (l[i] < x.low || l[i] > x.high) {
				want = api.ErrRange
			}
		}
		if s.next()%8 == 0 {
			k.others[s.next()%uint64(len(k.others))].set(&r, 1)
			want = api.ErrForm
		}
		if s.next()%16 == 0 {
			r.Kind, want = 12, api.ErrKind
		}
		b, e := Put(r)
		if seen[e]++; e != want {
			t.Fatalf("Put(%+v): %d; want %d", r, e, want)
		}
		if back, _ := Get(b); e == api.OK && back != r {
			t.Fatalf("Put(%+v): % X; got again: %+v", r, b, back)
		}
	}
	for _, e := range []api.Errno{api.OK, api.ErrRange, api.ErrForm, api.ErrKind} {
		if seen[e] < 500 {
			t.Errorf("%d records with answer %d: too few to tell", seen[e], e)
		}
	}
}

// P9.3: the longest record of each Kind, all of whose fields are at their greatest, has at most 42 bytes. By the ranges and layer 8's spelling the longest of all has 29: no record has just 42.
func TestLongest(t *testing.T) {
	lengths := []int{10, 1, 1, 2, 4, 4, 4, 9, 2, 1, 29}
	for i, k := range kinds() {
		b, e := Put(k.record(k.most()))
		if e != api.OK || len(b) != lengths[i] || len(b) > 42 {
			t.Errorf("Kind %d: % X, %d bytes, %d; want %d", k.kind, b, len(b), e, lengths[i])
		}
	}
	whole := api.Rec{Kind: api.KSnap, State: api.State{
		Phase: api.PRetire, Active: 1, Rev: [2]int{api.MaxRev, api.MaxRev}, Want: [2]int{api.MaxReplicas, api.MaxReplicas},
		Passed: [2]bool{true, true}, Delay: api.MaxDelay, Gen: api.MaxGen, Switch: api.SCommit, Flip: api.MaxTick,
	}}
	both(t, whole, "\x0b\x07\x01\x80\x80\x80\x80\x04\x80\x80\x80\x80\x04\x20\x20\x01\x01\x80\x80\x04\x80\x80\x40\x02\x80\x80\x80\x80\x04")
}

// P9.3: no two records have one text: each text that is put is put of one record alone.
func TestOneRecord(t *testing.T) {
	s := source(5)
	made := map[string]api.Rec{}
	for _, k := range kinds() {
		for range 2000 {
			r := k.record(s.fields(k))
			b, _ := Put(r)
			if other, there := made[b]; there && other != r {
				t.Fatalf("% X is put of %+v and of %+v", b, r, other)
			}
			made[b] = r
		}
	}
}

// Rule 6: calls don't hang on those ahead of them, be they refused or not.
func TestAgain(t *testing.T) {
	for range 3 {
		both(t, api.Rec{Kind: api.KDeploy, Rev: 300, N: 2}, "\x01\xac\x02\x02\x00")
		refused(t, api.Rec{Kind: api.KDeploy, Rev: 300, N: 33}, api.ErrRange)
		wrong(t, "\x01\xac\x02\x02", api.ErrForm)
		both(t, api.Rec{Kind: api.KCommit, Gen: 1}, "\x06\x01")
	}
}

// Texts as long as a program may be given are refused, and no call panics.
func TestLong(t *testing.T) {
	wrong(t, strings.Repeat("\x0b", 1<<22), api.ErrForm)
	wrong(t, strings.Repeat("\x00", 1<<22), api.ErrKind)
	wrong(t, strings.Repeat("\x80", 1<<22), api.ErrLong)
	wrong(t, "\x0b"+strings.Repeat("\x01", 1<<22)+"\x80", api.ErrForm)
}
