package disk

import (
	"fmt"
	"math"
	"strings"
	"testing"

	"switchback/api"
	"switchback/fuse"
)

// full makes a sector's bytes of one.
func full(size int, b byte) string { return strings.Repeat(string([]byte{b}), size) }

// runs tells bytes in few words: how often each stands on end.
func runs(b string) string {
	var told []string
	from := 0
	for at := 1; at <= len(b); at++ {
		if at == len(b) || b[at] != b[from] {
			told = append(told, fmt.Sprintf("%d of %q", at-from, b[from]))
			from = at
		}
	}
	return strings.Join(told, ", ")
}

// all reads every sector. Reading is done twice, as it may change nothing.
func all(t *testing.T, d *Disk) []string {
	t.Helper()
	var told []string
	for i := range d.Len() {
		b, e := d.Read(i)
		again, f := d.Read(i)
		if e != api.OK || f != api.OK || b != again || len(b) != d.Size() {
			t.Fatalf("sector %d: %s; %d, then %s; %d", i, runs(b), e, runs(again), f)
		}
		told = append(told, b)
	}
	return told
}

// sector complains unless a sector has these bytes.
func sector(t *testing.T, d *Disk, what string, i int, want string) {
	t.Helper()
	if b, e := d.Read(i); b != want || e != api.OK {
		t.Errorf("%s: sector %d is %s; %d; want %s", what, i, runs(b), e, runs(want))
	}
}

// told complains unless a call's answer, the writes that aren't flushed and what the fuse bore are these.
func told(t *testing.T, d *Disk, what string, e, want api.Errno, open, count int) {
	t.Helper()
	if e != want || d.Open() != open || d.fuse.Count() != count {
		t.Errorf("%s: %d, %d open, %d borne; want %d, %d, %d", what, e, d.Open(), d.fuse.Count(), want, open, count)
	}
}

// same complains unless every sector is as it was.
func same(t *testing.T, d *Disk, what string, before []string) {
	t.Helper()
	for i, b := range all(t, d) {
		if b != before[i] {
			t.Errorf("%s: sector %d is %s; want %s", what, i, runs(b), runs(before[i]))
		}
	}
}

// The document's example.
func TestExample(t *testing.T) {
	d := New(128, 4, fuse.New())
	a, b := full(128, 'a'), full(128, 'b')
	d.Write(0, a)
	d.Write(1, b)
	d.Crash(2, 128)
	sector(t, d, "example", 0, full(128, 0))
	sector(t, d, "example", 1, b)
}

// P5.1, New: sizes and numbers of sectors below, at and above their bounds.
func TestNew(t *testing.T) {
	for _, s := range []struct{ size, want int }{
		{math.MinInt, 128}, {-1, 128}, {0, 128}, {1, 128}, {127, 128}, {128, 128}, {129, 129},
		{500, 500}, {1023, 1023}, {1024, 1024}, {1025, 1024}, {1 << 32, 1024}, {math.MaxInt, 1024},
	} {
		for _, n := range []struct{ n, want int }{
			{math.MinInt, 4}, {-1, 4}, {0, 4}, {1, 4}, {3, 4}, {4, 4}, {5, 5},
			{77, 77}, {1023, 1023}, {1024, 1024}, {1025, 1024}, {1 << 32, 1024}, {math.MaxInt, 1024},
		} {
			f := fuse.New()
			d := New(s.size, n.n, f)
			what := fmt.Sprintf("New(%d, %d)", s.size, n.n)
			if d.Size() != s.want || d.Len() != n.want {
				t.Errorf("%s: %d sectors of %d bytes; want %d of %d", what, d.Len(), d.Size(), n.want, s.want)
			}
			told(t, d, what, api.OK, api.OK, 0, 0)
			zero := full(s.want, 0)
			for i := range d.Len() {
				sector(t, d, what, i, zero)
			}
		}
	}
}

// P5.1, New: each is one of its own, two of one fuse too; and what the fuse was told before holds.
func TestNewIsAnother(t *testing.T) {
	f := fuse.New()
	f.Spend()
	f.Arm(3)
	one, two := New(128, 4, f), New(128, 4, f)
	told(t, one, "the first", one.Write(0, full(128, 'a')), api.OK, 1, 2)
	told(t, two, "the second", two.Write(1, full(128, 'b')), api.OK, 1, 3)
	sector(t, one, "the first", 1, full(128, 0))
	sector(t, two, "the second", 0, full(128, 0))
	told(t, two, "the second", two.Flush(), api.OK, 0, 4)
	told(t, one, "the first", one.Flush(), api.ErrHalt, 1, 4)
	three := New(128, 4, fuse.New())
	same(t, three, "a later one", all(t, New(128, 4, fuse.New())))
	told(t, three, "a later one", three.Flush(), api.OK, 0, 1)
}

// places are numbers of sectors of a disk with n of them: those that it has, and those that it hasn't.
func places(n int) (in, out []int) {
	return []int{0, 1, n / 2, n - 2, n - 1}, []int{math.MinInt, math.MinInt32, -n, -2, -1, n, n + 1, 2 * n, 1 << 32, math.MaxInt}
}

// P5.1, Read, Write: at sectors below 0, at the first, the last and the one behind it.
func TestPlaces(t *testing.T) {
	for _, n := range []int{4, 5, 100, 1023, 1024} {
		d := New(128, n, fuse.New())
		in, out := places(n)
		for k, i := range in {
			b := full(128, byte('a'+k))
			told(t, d, fmt.Sprintf("Write(%d) of %d", i, n), d.Write(i, b), api.OK, k+1, k+1)
			sector(t, d, "written", i, b)
		}
		before := all(t, d)
		for _, i := range out {
			what := fmt.Sprintf("at %d of %d", i, n)
			told(t, d, what, d.Write(i, full(128, 'z')), api.ErrRange, len(in), len(in))
			if b, e := d.Read(i); b != "" || e != api.ErrRange {
				t.Errorf("Read %s: %q, %d", what, b, e)
			}
			same(t, d, what, before)
		}
	}
}

// P5.1, Write: bytes that are too few or too many, at sectors that are and that aren't.
func TestSizes(t *testing.T) {
	for _, size := range []int{128, 129, 500, 1023, 1024} {
		f := fuse.New()
		d := New(size, 4, f)
		d.Write(0, full(size, 'a'))
		before := all(t, d)
		for _, k := range []int{0, 1, 2, 127, 128, size / 2, size - 1, size, size + 1, 2 * size, 1024, 1 << 16} {
			for _, i := range []int{-1, 0, 3, 4} {
				if k == size && 0 <= i && i < 4 {
					continue
				}
				what := fmt.Sprintf("%d bytes of %d at %d", k, size, i)
				told(t, d, what, d.Write(i, full(k, 'z')), api.ErrRange, 1, 1)
				same(t, d, what, before)
			}
		}
		told(t, d, "as many as asked", d.Write(3, full(size, 'c')), api.OK, 2, 2)
		sector(t, d, "as many as asked", 3, full(size, 'c'))
	}
}

// P5.1, Write: the bytes are counted, not the runes.
func TestRunes(t *testing.T) {
	d := New(128, 4, fuse.New())
	told(t, d, "128 runes", d.Write(0, strings.Repeat("é", 128)), api.ErrRange, 0, 0)
	told(t, d, "128 bytes", d.Write(0, strings.Repeat("é", 64)), api.OK, 1, 1)
	sector(t, d, "128 bytes", 0, strings.Repeat("é", 64))
	every := ""
	for b := range 256 {
		every += string([]byte{byte(b)})
	}
	e := New(256, 4, fuse.New())
	told(t, e, "every byte", e.Write(1, every), api.OK, 1, 1)
	e.Crash(1, 200)
	sector(t, e, "every byte, torn", 1, every[:200]+full(56, 0))
}

// P5.1, rule 2: what is out of range is told ahead of a fuse that doesn't bear it, and the fuse isn't asked.
func TestRangeAheadOfHalt(t *testing.T) {
	f := fuse.New()
	d := New(128, 4, f)
	f.Arm(0)
	told(t, d, "below", d.Write(-1, full(128, 'a')), api.ErrRange, 0, 0)
	told(t, d, "behind", d.Write(4, full(128, 'a')), api.ErrRange, 0, 0)
	told(t, d, "few", d.Write(0, full(127, 'a')), api.ErrRange, 0, 0)
	told(t, d, "many", d.Write(0, full(129, 'a')), api.ErrRange, 0, 0)
	if f.Blown() {
		t.Error("the fuse was asked")
	}
	told(t, d, "in range", d.Write(0, full(128, 'a')), api.ErrHalt, 0, 0)
	if !f.Blown() {
		t.Error("the fuse wasn't asked")
	}
	told(t, d, "blown", d.Write(0, full(127, 'a')), api.ErrRange, 0, 0)
}

// P5.1: reading, and what a disk tells of itself, is no call that the fuse counts.
func TestLookingIsFree(t *testing.T) {
	f := fuse.New()
	d := New(128, 4, f)
	f.Arm(0)
	all(t, d)
	d.Read(9)
	if d.Size() != 128 || d.Len() != 4 || d.Open() != 0 || f.Count() != 0 || f.Blown() {
		t.Error("the fuse was asked")
	}
}

// P5.1, Write, Open: a sector has what it was written last, and each write counts, one of the same bytes too.
func TestWrites(t *testing.T) {
	d := New(128, 4, fuse.New())
	for k := range 200 {
		b := full(128, byte('a'+k/4))
		told(t, d, "written", d.Write(k%3, b), api.OK, k+1, k+1)
		sector(t, d, "written", k%3, b)
		told(t, d, "written twice", api.OK, api.OK, k+1, k+1)
	}
	sector(t, d, "never written", 3, full(128, 0))
	before := all(t, d)
	told(t, d, "flushed", d.Flush(), api.OK, 0, 201)
	same(t, d, "flushed", before)
	told(t, d, "flushed again", d.Flush(), api.OK, 0, 202)
	same(t, d, "flushed again", before)
}

// P5.1, P5.3, Write, Flush: with a fuse that bears none, that is armed with 1, that is blown.
func TestFuse(t *testing.T) {
	a, b, c := full(128, 'a'), full(128, 'b'), full(128, 'c')
	for name, arm := range map[string]func(f *fuse.Fuse){
		"armed with 0":  func(f *fuse.Fuse) { f.Arm(0) },
		"armed below 0": func(f *fuse.Fuse) { f.Arm(-3) },
		"none left":     func(f *fuse.Fuse) { f.Arm(1); f.Spend() },
		"blown":         func(f *fuse.Fuse) { f.Arm(0); f.Spend() },
	} {
		f := fuse.New()
		d := New(128, 4, f)
		d.Write(0, a)
		d.Flush()
		d.Write(0, b)
		d.Write(1, c)
		arm(f)
		before, count := all(t, d), f.Count()
		for range 3 {
			told(t, d, name+", write", d.Write(0, c), api.ErrHalt, 2, count)
			told(t, d, name+", write", d.Write(2, c), api.ErrHalt, 2, count)
			told(t, d, name+", flush", d.Flush(), api.ErrHalt, 2, count)
			same(t, d, name, before)
		}
		d.Crash(0, 128)
		sector(t, d, name+", crashed", 0, a)
		sector(t, d, name+", crashed", 1, full(128, 0))
		told(t, d, name+", crashed", d.Write(3, c), api.OK, 1, count+1)
	}
}

// P5.1: armed with 1, one write or one flush is borne, and none behind it.
func TestArmedWithOne(t *testing.T) {
	a, b := full(128, 'a'), full(128, 'b')
	f := fuse.New()
	d := New(128, 4, f)
	f.Arm(1)
	told(t, d, "first", d.Write(1, a), api.OK, 1, 1)
	told(t, d, "second", d.Write(1, b), api.ErrHalt, 1, 1)
	told(t, d, "flush", d.Flush(), api.ErrHalt, 1, 1)
	sector(t, d, "one write", 1, a)
	f.Arm(1)
	told(t, d, "flush", d.Flush(), api.OK, 0, 2)
	told(t, d, "flush again", d.Flush(), api.ErrHalt, 0, 2)
	told(t, d, "write", d.Write(1, b), api.ErrHalt, 0, 2)
	d.Crash(math.MaxUint64, 128)
	sector(t, d, "one flush", 1, a)
}

// written makes a disk with one flushed sector and three writes that aren't flushed.
func written() (*Disk, *fuse.Fuse) {
	f := fuse.New()
	d := New(128, 4, f)
	d.Write(1, full(128, 'f'))
	d.Flush()
	d.Write(0, full(128, 'a'))
	d.Write(1, full(128, 'b'))
	d.Write(2, full(128, 'c'))
	return d, f
}

// P5.2: with all writes kept, with none, with each choice of some.
func TestKeep(t *testing.T) {
	zero := full(128, 0)
	for keep := range uint64(8) {
		want := []string{zero, full(128, 'f'), zero, zero}
		for i := range 3 {
			if keep&(1<<i) != 0 {
				want[i] = full(128, byte('a'+i))
			}
		}
		// Bits for which there is no write tell nothing.
		for _, more := range []uint64{0, 8, 1 << 63, math.MaxUint64 - 7} {
			d, f := written()
			d.Crash(keep|more, 128)
			same(t, d, fmt.Sprintf("keep %x", keep|more), want)
			told(t, d, "behind a crash", api.OK, api.OK, 0, 5)
			if f.Blown() {
				t.Error("the fuse is blown")
			}
		}
	}
}

// P5.2: the last write that lasts is torn, and no other.
func TestTorn(t *testing.T) {
	zero, a, b, c, f := full(128, 0), full(128, 'a'), full(128, 'b'), full(128, 'c'), full(128, 'f')
	for _, tear := range []struct{ torn, at int }{
		{math.MinInt, 0}, {-1, 0}, {0, 0}, {1, 1}, {2, 2}, {64, 64}, {126, 126}, {127, 127},
		{128, 128}, {129, 128}, {1024, 128}, {1 << 32, 128}, {math.MaxInt, 128},
	} {
		at := tear.at
		for _, k := range []struct {
			keep uint64
			want []string
		}{
			{0, []string{zero, f, zero, zero}},
			{1, []string{a[:at] + zero[at:], f, zero, zero}},
			{2, []string{zero, b[:at] + f[at:], zero, zero}},
			{3, []string{a, b[:at] + f[at:], zero, zero}},
			{4, []string{zero, f, c[:at] + zero[at:], zero}},
			{5, []string{a, f, c[:at] + zero[at:], zero}},
			{6, []string{zero, b, c[:at] + zero[at:], zero}},
			{7, []string{a, b, c[:at] + zero[at:], zero}},
		} {
			d, _ := written()
			d.Crash(k.keep, tear.torn)
			same(t, d, fmt.Sprintf("keep %d, torn %d", k.keep, tear.torn), k.want)
		}
	}
}

// P5.2: a torn sector of another size.
func TestTornAtSize(t *testing.T) {
	for _, size := range []int{129, 1000, 1024} {
		for _, tear := range []struct{ torn, at int }{
			{-1, 0}, {0, 0}, {1, 1}, {128, 128}, {size - 1, size - 1}, {size, size}, {size + 1, size}, {math.MaxInt, size},
		} {
			d := New(size, 4, fuse.New())
			d.Write(3, full(size, 'x'))
			d.Crash(1, tear.torn)
			sector(t, d, fmt.Sprintf("torn %d of %d", tear.torn, size), 3, full(tear.at, 'x')+full(size-tear.at, 0))
		}
	}
}

// P5.2: several writes of one sector; what doesn't last never was, for the bytes behind the tear too.
func TestOneSector(t *testing.T) {
	a, b, c, f := full(128, 'a'), full(128, 'b'), full(128, 'c'), full(128, 'f')
	for keep, want := range []string{
		f, a[:9] + f[9:], b[:9] + f[9:], b[:9] + a[9:],
		c[:9] + f[9:], c[:9] + a[9:], c[:9] + b[9:], c[:9] + b[9:],
	} {
		d := New(128, 4, fuse.New())
		d.Write(2, f)
		d.Flush()
		d.Write(2, a)
		d.Write(2, b)
		d.Write(2, c)
		d.Crash(uint64(keep), 9)
		sector(t, d, fmt.Sprintf("keep %d", keep), 2, want)
	}
}

// P5.2: more than 64 writes, of which the i-th goes by bit i modulo 64.
func TestManyWrites(t *testing.T) {
	const size = 128
	for _, writes := range []int{63, 64, 65, 66, 127, 128, 129, 200} {
		for _, keep := range []uint64{0, 1, 2, 1 << 62, 1 << 63, 0x8000000000000001, 0x0123456789abcdef, math.MaxUint64, math.MaxUint64 - 1} {
			d := New(size, 256, fuse.New())
			want := all(t, d)
			last := -1
			for i := range writes {
				d.Write(i, full(size, byte(1+i%100)))
				if keep&(1<<(i%64)) != 0 {
					want[i], last = full(size, byte(1+i%100)), i
				}
			}
			if last >= 0 {
				want[last] = want[last][:50] + full(size-50, 0)
			}
			d.Crash(keep, 50)
			same(t, d, fmt.Sprintf("%d writes, keep %x", writes, keep), want)
		}
	}
}

// P5.2: without a write that isn't flushed nothing is kept or torn, but the fuse is reset.
func TestNothingOpen(t *testing.T) {
	for _, keep := range []uint64{0, 1, 6, math.MaxUint64} {
		for _, torn := range []int{-1, 0, 1, 127, 128, 129} {
			f := fuse.New()
			d := New(128, 4, f)
			d.Crash(keep, torn)
			same(t, d, "new", []string{full(128, 0), full(128, 0), full(128, 0), full(128, 0)})
			d.Write(0, full(128, 'a'))
			d.Write(3, full(128, 'b'))
			d.Flush()
			before := all(t, d)
			f.Arm(0)
			f.Spend()
			for range 3 {
				d.Crash(keep, torn)
				same(t, d, "flushed", before)
				told(t, d, "flushed", api.OK, api.OK, 0, 3)
				if f.Blown() {
					t.Error("the fuse is blown")
				}
			}
			told(t, d, "behind it", d.Write(1, full(128, 'c')), api.OK, 1, 4)
		}
	}
}

// P5.2: the fuse is reset, whatever it was: it bears any calls again, and its count stays.
func TestCrashResetsTheFuse(t *testing.T) {
	for name, arm := range map[string]func(f *fuse.Fuse){
		"not armed":    func(f *fuse.Fuse) {},
		"armed":        func(f *fuse.Fuse) { f.Arm(2) },
		"armed with 0": func(f *fuse.Fuse) { f.Arm(0) },
		"blown":        func(f *fuse.Fuse) { f.Arm(0); f.Spend() },
	} {
		d, f := written()
		arm(f)
		d.Crash(1, 3)
		for k := range 10 {
			told(t, d, name, d.Write(k%4, full(128, 'x')), api.OK, k+1, 6+k)
		}
		told(t, d, name, d.Flush(), api.OK, 0, 16)
	}
}

// P5.2, P5.3: what lasted of a crash lasts through the next ones; the order of writes begins anew behind a crash and behind a flush.
func TestCrashBehindCrash(t *testing.T) {
	a, b, c, zero := full(128, 'a'), full(128, 'b'), full(128, 'c'), full(128, 0)
	d := New(128, 4, fuse.New())
	d.Write(0, a)
	d.Write(1, a)
	d.Crash(3, 40)
	half := a[:40] + zero[40:]
	same(t, d, "first", []string{a, half, zero, zero})
	d.Crash(0, 0)
	same(t, d, "second", []string{a, half, zero, zero})
	d.Write(1, b)
	d.Write(0, c)
	d.Crash(1, 20)
	same(t, d, "third", []string{a, b[:20] + half[20:], zero, zero})
	d.Write(2, b)
	d.Flush()
	d.Write(3, c)
	d.Write(2, c)
	d.Crash(1, 128)
	same(t, d, "fourth", []string{a, b[:20] + half[20:], b, c})
}

// asWords is a disk as the chapter's words tell it: what was flushed, and the writes behind it, from which all else is worked out byte by byte.
type asWords struct {
	flushed [2]string
	open    []write
}

// byteOf tells a byte: of the writes that last, the last one that reaches it, or what was flushed.
func (w *asWords) byteOf(sector, at int, lasting []write, torn int) byte {
	for k := len(lasting) - 1; k >= 0; k-- {
		reaches := at < torn || k < len(lasting)-1
		if lasting[k].sector == sector && reaches {
			return lasting[k].bytes[at]
		}
	}
	return w.flushed[sector][at]
}

// settle makes what is flushed of the writes that last.
func (w *asWords) settle(lasting []write, torn int) {
	var next [2]string
	for i := range next {
		b := make([]byte, 128)
		for at := range b {
			b[at] = w.byteOf(i, at, lasting, torn)
		}
		next[i] = string(b)
	}
	w.flushed, w.open = next, nil
}

func (w *asWords) crash(keep uint64, torn int) {
	var lasting []write
	for i, o := range w.open {
		if keep&(1<<i) != 0 {
			lasting = append(lasting, o)
		}
	}
	w.settle(lasting, torn)
}

func (w *asWords) read(i int) string {
	for k := len(w.open) - 1; k >= 0; k-- {
		if w.open[k].sector == i {
			return w.open[k].bytes
		}
	}
	return w.flushed[i]
}

// P5.1, P5.2, P5.3: all ways to write, flush and crash five times in two sectors, held against the words.
func TestAllShortWays(t *testing.T) {
	crashes := []struct {
		keep uint64
		torn int
	}{{0, 128}, {1, 128}, {2, 5}, {5, 127}, {3, 0}, {6, 1}, {math.MaxUint64, 60}}
	kinds, length := 3+len(crashes), 5
	ways := 1
	for range length {
		ways *= kinds
	}
	for way := range ways {
		f := fuse.New()
		d, w := New(128, 4, f), &asWords{flushed: [2]string{full(128, 0), full(128, 0)}}
		for rest, k := way, 0; k < length; rest, k = rest/kinds, k+1 {
			switch kind := rest % kinds; kind {
			case 0, 1:
				b := letters[k]
				d.Write(kind, b)
				w.open = append(w.open, write{kind, b})
			case 2:
				d.Flush()
				w.settle(w.open, 128)
			default:
				c := crashes[kind-3]
				d.Crash(c.keep, c.torn)
				w.crash(c.keep, c.torn)
			}
			one, _ := d.Read(0)
			two, _ := d.Read(1)
			if one != w.read(0) || two != w.read(1) || d.Open() != len(w.open) {
				t.Fatalf("way %d, call %d: %s; %s; %d open; want %s; %s; %d", way, k, runs(one), runs(two), d.Open(), runs(w.read(0)), runs(w.read(1)), len(w.open))
			}
		}
	}
}

// letters are sectors that differ.
var letters = [6]string{full(128, 'a'), full(128, 'b'), full(128, 'c'), full(128, 'd'), full(128, 'e'), full(128, 'f')}

// P5.3: what was flushed lasts, whatever crashes, with and without writes to other sectors.
func TestFlushedLasts(t *testing.T) {
	for keep := range uint64(16) {
		for _, torn := range []int{-1, 0, 1, 64, 127, 128, 200} {
			d := New(128, 8, fuse.New())
			for i := range 4 {
				d.Write(i, letters[i])
			}
			d.Flush()
			for range 3 {
				for i := range 4 {
					d.Write(4+i, letters[5-i])
				}
				d.Crash(keep, torn)
				for i := range 4 {
					sector(t, d, "flushed", i, letters[i])
				}
			}
		}
	}
}

// P5.3: what the fuse doesn't bear is kept by no crash.
func TestNotBorneNeverWas(t *testing.T) {
	for bears := range 5 {
		f := fuse.New()
		d := New(128, 4, f)
		f.Arm(bears)
		for i := range 4 {
			want := api.OK
			if i >= bears {
				want = api.ErrHalt
			}
			told(t, d, "write", d.Write(i, letters[i]), want, min(i+1, bears), min(i+1, bears))
		}
		d.Crash(math.MaxUint64, 128)
		for i := range 4 {
			if i < bears {
				sector(t, d, "borne", i, letters[i])
			} else {
				sector(t, d, "not borne", i, full(128, 0))
			}
		}
	}
}

// Rule 5: what was read stays as it was, whatever is done to the disk.
func TestReadStays(t *testing.T) {
	d := New(128, 4, fuse.New())
	b := []byte(letters[0])
	d.Write(0, string(b))
	first, _ := d.Read(0)
	b[0] = 'z'
	d.Write(0, letters[1])
	d.Flush()
	d.Crash(0, 0)
	if first != letters[0] {
		t.Errorf("%q", first)
	}
	sector(t, d, "written behind it", 0, letters[1])
}
