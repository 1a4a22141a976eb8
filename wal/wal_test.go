package wal

import (
	"fmt"
	"math"
	"slices"
	"strings"
	"testing"

	"switchback/api"
	"switchback/disk"
	"switchback/frame"
	"switchback/fuse"
)

const top = 1<<32 - 1

// rec is what a sector is to have: a record, or, with raw, just these bytes.
type rec struct {
	at, gen, seq int
	payload, raw string
}

// head is an area's head that stands at a sector.
func head(at, gen int) rec { return rec{at: at, gen: gen, payload: "head"} }

// must is a sector with a record.
func must(t *testing.T, gen, seq int, payload string, size int) string {
	t.Helper()
	b, e := frame.Put(gen, seq, payload, size)
	if e != api.OK {
		t.Fatalf("frame.Put(%d, %d, %q, %d): %d", gen, seq, payload, size, e)
	}
	return b
}

// fresh is a disk on which nothing was written.
func fresh(n int) (*fuse.Fuse, *disk.Disk) {
	f := fuse.New()
	return f, disk.New(128, n, f)
}

// laid is a disk on which these were written, and flushed. Its fuse has borne no more calls than that.
func laid(t *testing.T, n int, l ...rec) (*fuse.Fuse, *disk.Disk) {
	t.Helper()
	f, d := fresh(n)
	write(t, d, l...)
	if e := d.Flush(); e != api.OK {
		t.Fatal(e)
	}
	return f, d
}

// write writes these, and doesn't flush them.
func write(t *testing.T, d *disk.Disk, l ...rec) {
	t.Helper()
	for _, r := range l {
		b := r.raw
		if b == "" {
			b = must(t, r.gen, r.seq, r.payload, d.Size())
		}
		if e := d.Write(r.at, b); e != api.OK {
			t.Fatalf("sector %d: %d", r.at, e)
		}
	}
}

// all are a disk's sectors.
func all(d *disk.Disk) []string {
	var l []string
	for i := range d.Len() {
		b, _ := d.Read(i)
		l = append(l, b)
	}
	return l
}

// differ are the numbers of the sectors that aren't as they were.
func differ(d *disk.Disk, before []string) []int {
	var l []int
	for i, b := range all(d) {
		if b != before[i] {
			l = append(l, i)
		}
	}
	return l
}

// holds complains unless a sector has this record.
func holds(t *testing.T, d *disk.Disk, what string, at, gen, seq int, payload string) {
	t.Helper()
	if b, _ := d.Read(at); b != must(t, gen, seq, payload, d.Size()) {
		t.Errorf("%s: sector %d is %.20q; want record %d of generation %d, %q", what, at, b, seq, gen, payload)
	}
}

// look complains unless a log tells this of itself. It is asked twice, as asking may change nothing.
func look(t *testing.T, w *Wal, what string, gen, room int, broken bool) {
	t.Helper()
	for range 2 {
		if w.Gen() != gen || w.Room() != room || w.Broken() != broken {
			t.Errorf("%s: generation %d, room %d, broken %t; want %d, %d, %t", what, w.Gen(), w.Room(), w.Broken(), gen, room, broken)
		}
	}
}

// opened opens a disk, of which these are to be the log's generation and records.
func opened(t *testing.T, d *disk.Disk, what string, gen int, records ...string) *Wal {
	t.Helper()
	w, l, e := Open(d)
	if w == nil || e != api.OK || !slices.Equal(l, records) {
		t.Fatalf("%s: %q, %d; want %q", what, l, e, records)
	}
	look(t, w, what, gen, d.Len()/2-1-len(records), false)
	if d.Open() != 0 {
		t.Errorf("%s: %d writes aren't flushed", what, d.Open())
	}
	return w
}

// lasts opens a disk as opened does, and once more behind a crash that keeps nothing that wasn't flushed.
func lasts(t *testing.T, d *disk.Disk, what string, gen int, records ...string) *Wal {
	t.Helper()
	opened(t, d, what, gen, records...)
	d.Crash(0, 0)
	return opened(t, d, what+", crashed", gen, records...)
}

// told complains unless a call answered this, and the fuse has borne so many calls since count.
func told(t *testing.T, f *fuse.Fuse, what string, e, want api.Errno, count, calls int) {
	t.Helper()
	if e != want || f.Count()-count != calls {
		t.Errorf("%s: %d by %d calls; want %d by %d", what, e, f.Count()-count, want, calls)
	}
}

// unchanged complains if a call that is refused asks the fuse, or leaves anything otherwise than it was.
func unchanged(t *testing.T, f *fuse.Fuse, d *disk.Disk, w *Wal, what string, want api.Errno, call func() api.Errno) {
	t.Helper()
	before, open, gen, room, broken := all(d), d.Open(), w.Gen(), w.Room(), w.Broken()
	count, blown := f.Count(), f.Blown()
	told(t, f, what, call(), want, count, 0)
	look(t, w, what, gen, room, broken)
	if l := differ(d, before); len(l) != 0 || d.Open() != open || f.Blown() != blown {
		t.Errorf("%s: sectors %d changed, %d writes open (%d before), blown %t", what, l, d.Open(), open, f.Blown())
	}
}

// The document's example.
func TestExample(t *testing.T) {
	_, d := fresh(8)
	w := opened(t, d, "fresh", 1)
	look(t, w, "fresh", 1, 3, false)
	for _, x := range []struct {
		what string
		e    api.Errno
		want api.Errno
	}{
		{"a", w.Append("a"), api.OK}, {"b", w.Append("b"), api.OK}, {"c", w.Append("c"), api.OK}, {"d", w.Append("d"), api.ErrFull},
		{"abc", w.Checkpoint("abc"), api.OK}, {"d again", w.Append("d"), api.OK},
	} {
		if x.e != x.want {
			t.Errorf("%s: %d; want %d", x.what, x.e, x.want)
		}
	}
	look(t, w, "at the end", 2, 1, false)
	lasts(t, d, "at the end", 2, "abc", "d")
}

// P7.1: a fresh disk gets the head of generation 1 in area 0, by a write and a flush; a second look needs neither.
func TestOpenFresh(t *testing.T) {
	for _, size := range []int{128, 129, 500, 1024} {
		for _, n := range []int{4, 5, 6, 7, 8, 9, 100, 1023, 1024} {
			f := fuse.New()
			d := disk.New(size, n, f)
			before := all(d)
			what := fmt.Sprintf("%d sectors of %d", n, size)
			w := opened(t, d, what, 1)
			look(t, w, what, 1, n/2-1, false)
			told(t, f, what, api.OK, api.OK, 0, 2)
			if l := differ(d, before); !slices.Equal(l, []int{0}) {
				t.Errorf("%s: sectors %d changed", what, l)
			}
			holds(t, d, what, 0, 1, 0, "head")
			lasts(t, d, what+", again", 1)
			told(t, f, what+", again", api.OK, api.OK, 0, 2)
		}
	}
}

// P7.1 and the chapter's Words: a head's bytes, one by one.
func TestHeadBytes(t *testing.T) {
	_, d := fresh(4)
	opened(t, d, "fresh", 1)
	b, _ := d.Read(0)
	if b[:10] != "\x00\x04\x00\x00\x00\x01\x00\x00\x00\x00" || b[14:] != "head"+strings.Repeat("\x00", 110) {
		t.Errorf("%q", b)
	}
}

// P7.1: writes that aren't flushed are flushed first, and count as what was written.
func TestOpenFlushes(t *testing.T) {
	for _, c := range []struct {
		what    string
		ahead   []rec // flushed
		open    []rec // not flushed
		calls   int
		gen     int
		records []string
	}{
		{"nothing open", []rec{head(0, 3)}, nil, 0, 3, nil},
		{"a record", []rec{head(0, 3)}, []rec{{1, 3, 1, "a", ""}}, 1, 3, []string{"a"}},
		{"two records", []rec{head(0, 3)}, []rec{{1, 3, 1, "a", ""}, {2, 3, 2, "b", ""}}, 1, 3, []string{"a", "b"}},
		{"a head", []rec{{5, 4, 1, "c", ""}}, []rec{head(4, 4)}, 1, 4, []string{"c"}},
		{"a greater head", []rec{head(0, 3), {5, 4, 1, "c", ""}}, []rec{head(4, 4)}, 1, 4, []string{"c"}},
		{"a head, and its record ahead of it", []rec{head(0, 3)}, []rec{{5, 4, 1, "c", ""}, head(4, 4)}, 1, 4, []string{"c"}},
		{"a head that is spoilt", []rec{head(0, 3), head(4, 4)}, []rec{{4, 4, 0, "", strings.Repeat("x", 128)}}, 1, 3, nil},
		{"what belongs to no area", []rec{head(0, 3)}, []rec{{8, 9, 0, "head", ""}}, 1, 3, nil},
		{"what was there already", []rec{head(0, 3)}, []rec{head(0, 3)}, 1, 3, nil},
		{"what is no head, on a disk without one", nil, []rec{{3, 2, 3, "x", ""}}, 3, 1, nil},
	} {
		f, d := laid(t, 9, c.ahead...)
		write(t, d, c.open...)
		count := f.Count()
		opened(t, d, c.what, c.gen, c.records...)
		told(t, f, c.what, api.OK, api.OK, count, c.calls)
		lasts(t, d, c.what, c.gen, c.records...)
		told(t, f, c.what+", again", api.OK, api.OK, count, c.calls)
	}
}

// P7.1 and the chapter's Words: which area is the log's. Nothing is written where there is a head.
func TestHeads(t *testing.T) {
	for _, c := range []struct {
		first, second int // generations of the areas' heads; 0: none
		gen           int
		area          int
	}{
		{1, 0, 1, 0}, {0, 1, 1, 1}, {7, 0, 7, 0}, {0, 7, 7, 1}, {top, 0, top, 0}, {0, top, top, 1},
		{1, 2, 2, 1}, {2, 1, 2, 0}, {1, 9, 9, 1}, {9, 1, 9, 0}, {255, 256, 256, 1}, {256, 255, 256, 0},
		{1 << 31, 1<<31 - 1, 1 << 31, 0}, {1<<31 - 1, 1 << 31, 1 << 31, 1}, {top, 1, top, 0}, {1, top, top, 1}, {top - 1, top, top, 1},
		{1, 1, 1, 0}, {5, 5, 5, 0}, {top, top, top, 0},
	} {
		for _, n := range []int{8, 9, 4, 5, 33} {
			half := n / 2
			l := []rec{{1, c.first, 1, "of area 0", ""}, {half + 1, c.second, 1, "of area 1", ""}}
			if c.first > 0 {
				l = append(l, head(0, c.first))
			}
			if c.second > 0 {
				l = append(l, head(half, c.second))
			}
			f, d := laid(t, n, l...)
			before, count := all(d), f.Count()
			what := fmt.Sprintf("%d sectors, heads %d and %d", n, c.first, c.second)
			opened(t, d, what, c.gen, fmt.Sprintf("of area %d", c.area))
			told(t, f, what, api.OK, api.OK, count, 0)
			if l := differ(d, before); len(l) != 0 {
				t.Errorf("%s: sectors %d changed", what, l)
			}
		}
	}
}

// noHeads are first sectors of an area that aren't heads.
func noHeads(t *testing.T, at int) map[string]rec {
	whole := must(t, 3, 0, "head", 128)
	return map[string]rec{
		"bytes 0":            {at: at, raw: strings.Repeat("\x00", 128)},
		"other bytes":        {at: at, raw: strings.Repeat("h", 128)},
		"half of a head":     {at: at, raw: whole[:12] + strings.Repeat("\x00", 116)},
		"a byte behind it":   {at: at, raw: whole[:127] + "\x01"},
		"a wrong sum":        {at: at, raw: whole[:13] + string([]byte{whole[13] ^ 1}) + whole[14:]},
		"number 1":           {at: at, gen: 3, seq: 1, payload: "head"},
		"the disk's number":  {at: at, gen: 3, seq: max(at, 1), payload: "head"},
		"the last number":    {at: at, gen: 3, seq: top, payload: "head"},
		"generation 0":       {at: at, gen: 0, payload: "head"},
		"no payload":         {at: at, gen: 3, payload: ""},
		"a shorter payload":  {at: at, gen: 3, payload: "hea"},
		"a longer payload":   {at: at, gen: 3, payload: "head\x00"},
		"another payload":    {at: at, gen: 3, payload: "tail"},
		"greater letters":    {at: at, gen: 3, payload: "HEAD"},
		"a whole head in it": {at: at, gen: 3, payload: whole[:100]},
	}
}

// P7.1: a first sector that is no head counts as none, in either area; if neither has one, area 0 gets the first one.
func TestNoHead(t *testing.T) {
	for zero, a := range noHeads(t, 0) {
		f, d := laid(t, 8, a, rec{1, 3, 1, "a", ""}, head(4, 2), rec{5, 2, 1, "b", ""})
		count := f.Count()
		opened(t, d, zero+" in area 0", 2, "b")
		told(t, f, zero+" in area 0", api.OK, api.OK, count, 0)
		for four, b := range noHeads(t, 4) {
			what := zero + " in area 0, " + four + " in area 1"
			f, d := laid(t, 8, a, rec{1, 3, 1, "a", ""}, b, rec{5, 3, 1, "b", ""})
			before, count := all(d), f.Count()
			opened(t, d, what, 1)
			told(t, f, what, api.OK, api.OK, count, 2)
			if l := differ(d, before); !slices.Equal(l, []int{0}) {
				t.Errorf("%s: sectors %d changed", what, l)
			}
			holds(t, d, what, 0, 1, 0, "head")
			lasts(t, d, what, 1)
		}
	}
	for four, b := range noHeads(t, 4) {
		f, d := laid(t, 8, head(0, 2), rec{1, 2, 1, "a", ""}, b, rec{5, 3, 1, "b", ""})
		count := f.Count()
		opened(t, d, four+" in area 1", 2, "a")
		told(t, f, four+" in area 1", api.OK, api.OK, count, 0)
	}
}

// P7.1: a head in the midst of an area is none, nor is one behind both areas.
func TestHeadElsewhere(t *testing.T) {
	for at := range 9 {
		if at == 0 || at == 4 {
			continue
		}
		f, d := laid(t, 9, head(at, 3), rec{1 + at%8, 3, 1, "x", ""})
		count := f.Count()
		opened(t, d, fmt.Sprintf("a head at %d", at), 1)
		told(t, f, "a head elsewhere", api.OK, api.OK, count, 2)
	}
}

// P7.1 and the chapter's Words: where the records end, in either area.
func TestRecordsEnd(t *testing.T) {
	junk := strings.Repeat("j", 128)
	for _, c := range []struct {
		what    string
		behind  []rec // by places in the area
		records []string
	}{
		{"none", nil, nil},
		{"one", []rec{{1, 5, 1, "a", ""}}, []string{"a"}},
		{"all", []rec{{1, 5, 1, "a", ""}, {2, 5, 2, "b", ""}, {3, 5, 3, "c", ""}, {4, 5, 4, "d", ""}}, []string{"a", "b", "c", "d"}},
		{"empty ones", []rec{{1, 5, 1, "", ""}, {2, 5, 2, "", ""}, {3, 5, 3, "c", ""}}, []string{"", "", "c"}},
		{"ones like heads", []rec{{1, 5, 1, "head", ""}, {2, 5, 2, "head", ""}}, []string{"head", "head"}},
		{"the same twice", []rec{{1, 5, 1, "a", ""}, {2, 5, 2, "a", ""}}, []string{"a", "a"}},
		{"a lesser generation first", []rec{{1, 4, 1, "a", ""}, {2, 5, 2, "b", ""}}, nil},
		{"a greater generation first", []rec{{1, 6, 1, "a", ""}, {2, 5, 2, "b", ""}}, nil},
		{"generation 0", []rec{{1, 0, 1, "a", ""}, {2, 5, 2, "b", ""}}, nil},
		{"the last generation", []rec{{1, top, 1, "a", ""}, {2, 5, 2, "b", ""}}, nil},
		{"a lesser generation between", []rec{{1, 5, 1, "a", ""}, {2, 4, 2, "b", ""}, {3, 5, 3, "c", ""}}, []string{"a"}},
		{"a greater generation between", []rec{{1, 5, 1, "a", ""}, {2, 6, 2, "b", ""}, {3, 5, 3, "c", ""}}, []string{"a"}},
		{"number 0", []rec{{1, 5, 0, "a", ""}, {2, 5, 2, "b", ""}}, nil},
		{"a head in its place", []rec{{1, 5, 0, "head", ""}, {2, 5, 2, "b", ""}}, nil},
		{"a number too great", []rec{{1, 5, 2, "a", ""}, {2, 5, 3, "b", ""}}, nil},
		{"a number twice", []rec{{1, 5, 1, "a", ""}, {2, 5, 1, "b", ""}, {3, 5, 3, "c", ""}}, []string{"a"}},
		{"a number too few", []rec{{1, 5, 1, "a", ""}, {2, 5, 3, "b", ""}, {3, 5, 3, "c", ""}}, []string{"a"}},
		{"the number on the disk", []rec{{1, 5, 6, "a", ""}}, nil},
		{"a gap at first", []rec{{2, 5, 2, "b", ""}}, nil},
		{"a gap", []rec{{1, 5, 1, "a", ""}, {3, 5, 3, "c", ""}, {4, 5, 4, "d", ""}}, []string{"a"}},
		{"other bytes between", []rec{{1, 5, 1, "a", ""}, {2, 5, 2, "b", ""}, {3, 0, 0, "", junk}, {4, 5, 4, "d", ""}}, []string{"a", "b"}},
		{"other bytes at the end", []rec{{1, 5, 1, "a", ""}, {2, 5, 2, "b", ""}, {3, 5, 3, "c", ""}, {4, 0, 0, "", junk}}, []string{"a", "b", "c"}},
	} {
		for _, from := range []int{0, 5} {
			// What stands in the other area, and behind both, is no part of the log.
			l := []rec{head(from, 5), {5 - from + 1, 5, 1, "z", ""}, head(5-from, 4), {10, 5, 5, "z", ""}}
			for _, r := range c.behind {
				r.at += from
				l = append(l, r)
			}
			f, d := laid(t, 11, l...)
			before, count := all(d), f.Count()
			what := fmt.Sprintf("%s, in the area from %d on", c.what, from)
			opened(t, d, what, 5, c.records...)
			told(t, f, what, api.OK, api.OK, count, 0)
			if l := differ(d, before); len(l) != 0 {
				t.Errorf("%s: sectors %d changed", what, l)
			}
		}
	}
}

// P7.1: a full area 0 ends ahead of area 1, whatever stands there.
func TestAreaEnds(t *testing.T) {
	for _, n := range []int{4, 5, 8, 9} {
		half := n / 2
		l := []rec{head(0, 5)}
		var want []string
		for place := 1; place < n; place++ {
			l = append(l, rec{place, 5, place, strings.Repeat("r", place), ""})
			if place < half {
				want = append(want, strings.Repeat("r", place))
			}
		}
		_, d := laid(t, n, l...)
		w := opened(t, d, "a row of records", 5, want...)
		look(t, w, "a row of records", 5, 0, false)
	}
}

// P7.1, as its words stand: what the first head is laid ahead of are its records, if they are of its generation.
func TestRecordsAheadOfTheFirstHead(t *testing.T) {
	f, d := laid(t, 8, rec{1, 1, 1, "a", ""}, rec{2, 1, 2, "b", ""}, rec{5, 1, 1, "z", ""})
	count := f.Count()
	lasts(t, d, "without a head", 1, "a", "b")
	told(t, f, "without a head", api.OK, api.OK, count, 2)
}

// P7.1: with a fuse that fails at each of its calls.
func TestOpenHalts(t *testing.T) {
	for _, c := range []struct {
		what        string
		ahead, open []rec
		calls       int
		gen         int
		records     []string
	}{
		{"a fresh disk", nil, nil, 2, 1, nil},
		{"a head", []rec{head(4, 2)}, nil, 0, 2, nil},
		{"a head, and a record open", []rec{head(4, 2)}, []rec{{5, 2, 1, "a", ""}}, 1, 2, []string{"a"}},
		{"a head open", nil, []rec{head(0, 2)}, 1, 2, nil},
		{"no head, and a write open", nil, []rec{{7, 2, 1, "a", ""}}, 3, 1, nil},
	} {
		for n := range c.calls + 1 {
			f, d := laid(t, 8, c.ahead...)
			write(t, d, c.open...)
			what := fmt.Sprintf("%s, armed with %d", c.what, n)
			f.Arm(n)
			count := f.Count()
			if n == c.calls {
				opened(t, d, what, c.gen, c.records...)
				told(t, f, what, api.OK, api.OK, count, n)
				if f.Blown() {
					t.Errorf("%s: the fuse was asked once more", what)
				}
				continue
			}
			w, l, e := Open(d)
			told(t, f, what, e, api.ErrHalt, count, n)
			if w != nil || l != nil || !f.Blown() {
				t.Errorf("%s: %v, %q, blown %t", what, w, l, f.Blown())
			}
			again, l, e := Open(d)
			if told(t, f, what+", again", e, api.ErrHalt, count, n); again != nil || l != nil {
				t.Errorf("%s, again: %v, %q", what, again, l)
			}
			f.Reset()
			lasts(t, d, what+", reset", c.gen, c.records...)
		}
	}
}

// P7.1: what an Open that fails leaves: nothing, or the head, written and not flushed.
func TestOpenHaltsLeaves(t *testing.T) {
	f, d := fresh(8)
	before := all(d)
	f.Arm(0)
	Open(d)
	if l := differ(d, before); len(l) != 0 || d.Open() != 0 {
		t.Errorf("sectors %d changed, %d open", l, d.Open())
	}
	f.Arm(1)
	Open(d)
	if l := differ(d, before); !slices.Equal(l, []int{0}) || d.Open() != 1 {
		t.Errorf("sectors %d changed, %d open", l, d.Open())
	}
	f.Reset()
	count := f.Count()
	lasts(t, d, "behind both", 1)
	told(t, f, "behind both", api.OK, api.OK, count, 1)
}

// Rule 5: the list of records is the caller's own.
func TestListIsNew(t *testing.T) {
	_, d := laid(t, 8, head(0, 1), rec{1, 1, 1, "a", ""}, rec{2, 1, 2, "b", ""})
	w, l, _ := Open(d)
	l[0], l[1] = "x", "y"
	_ = append(l[:1], "z")
	look(t, w, "behind a change", 1, 1, false)
	if w.Append("c") != api.OK {
		t.Error("Append")
	}
	lasts(t, d, "behind a change", 1, "a", "b", "c")
}

// P7.2: payloads of no byte, of one, up to the room and beyond it.
func TestAppendLengths(t *testing.T) {
	for _, size := range []int{128, 300, 1024} {
		f := fuse.New()
		d := disk.New(size, 14, f)
		w := opened(t, d, "fresh", 1)
		room := frame.Room(size)
		var want []string
		for _, length := range []int{0, 1, 2, room - 1, room} {
			s := strings.Repeat("é\x00\xff", length)[:length]
			what := fmt.Sprintf("%d bytes of %d", length, size)
			before, count := all(d), f.Count()
			told(t, f, what, w.Append(s), api.OK, count, 2)
			want = append(want, s)
			look(t, w, what, 1, 6-len(want), false)
			if l := differ(d, before); !slices.Equal(l, []int{len(want)}) || d.Open() != 0 {
				t.Errorf("%s: sectors %d changed, %d open", what, l, d.Open())
			}
			holds(t, d, what, len(want), 1, len(want), s)
			for _, long := range []int{room + 1, room + 2, size, 2 * size, 1 << 16, 1 << 20} {
				unchanged(t, f, d, w, "too long", api.ErrLong, func() api.Errno { return w.Append(strings.Repeat("l", long)) })
			}
		}
		lasts(t, d, "lengths", 1, want...)
	}
}

// P7.2: bytes are counted, not runes.
func TestRunes(t *testing.T) {
	f, d := fresh(8)
	w := opened(t, d, "fresh", 1)
	unchanged(t, f, d, w, "114 runes", api.ErrLong, func() api.Errno { return w.Append(strings.Repeat("é", 114)) })
	unchanged(t, f, d, w, "114 runes", api.ErrLong, func() api.Errno { return w.Checkpoint(strings.Repeat("é", 114)) })
	if e := w.Append(strings.Repeat("é", 57)); e != api.OK {
		t.Errorf("57 runes: %d", e)
	}
}

// fill appends till there is no room, and answers all records.
func fill(t *testing.T, f *fuse.Fuse, w *Wal, what string, ahead ...string) []string {
	t.Helper()
	records := slices.Clone(ahead)
	for room := w.Room(); room > 0; room-- {
		s := fmt.Sprintf("%s, record %d", what, len(records)+1)
		count := f.Count()
		told(t, f, s, w.Append(s), api.OK, count, 2)
		records = append(records, s)
		look(t, w, s, w.Gen(), room-1, false)
	}
	return records
}

// P7.2: a full area, on disks of the smallest number of sectors, of odd ones, and of the greatest.
func TestFull(t *testing.T) {
	for _, n := range []int{4, 5, 6, 7, 8, 9, 63, 1023, 1024} {
		f, d := fresh(n)
		w := opened(t, d, "fresh", 1)
		before := all(d)
		records := fill(t, f, w, "full")
		if len(records) != n/2-1 {
			t.Errorf("%d sectors: %d records", n, len(records))
		}
		for at, b := range all(d)[n/2:] {
			if b != before[n/2+at] {
				t.Errorf("%d sectors: sector %d changed", n, n/2+at)
			}
		}
		for range 2 {
			unchanged(t, f, d, w, "full", api.ErrFull, func() api.Errno { return w.Append("one more") })
			unchanged(t, f, d, w, "full", api.ErrFull, func() api.Errno { return w.Append("") })
			unchanged(t, f, d, w, "full, and long", api.ErrLong, func() api.Errno { return w.Append(strings.Repeat("l", 115)) })
		}
		w = lasts(t, d, "full", 1, records...)
		unchanged(t, f, d, w, "full, opened anew", api.ErrFull, func() api.Errno { return w.Append("one more") })
	}
}

// P7.2: a log that was opened goes on behind the records that were found, over what stands there.
func TestAppendBehindWhatWasFound(t *testing.T) {
	for _, from := range []int{0, 5} {
		f, d := laid(t, 10, head(from, 5), rec{from + 1, 5, 1, "a", ""}, rec{from + 2, 4, 2, "elder", ""}, rec{from + 3, 4, 3, "elder", ""})
		w := opened(t, d, "found", 5, "a")
		before, count := all(d), f.Count()
		told(t, f, "behind it", w.Append("b"), api.OK, count, 2)
		if l := differ(d, before); !slices.Equal(l, []int{from + 2}) {
			t.Errorf("sectors %d changed", l)
		}
		holds(t, d, "behind it", from+2, 5, 2, "b")
		lasts(t, d, "behind it", 5, "a", "b")
	}
}

// P7.2: into a gap goes one record; it is one more of the log that is open.
func TestAppendIntoAGap(t *testing.T) {
	_, d := laid(t, 10, head(0, 5), rec{1, 5, 1, "a", ""}, rec{3, 5, 3, "c", ""})
	w := opened(t, d, "a gap", 5, "a")
	if w.Append("b") != api.OK {
		t.Error("Append")
	}
	look(t, w, "into the gap", 5, 2, false)
	holds(t, d, "into the gap", 2, 5, 2, "b")
}

// refuses complains unless a broken log refuses all that it is asked, and asks nothing of the disk.
func refuses(t *testing.T, f *fuse.Fuse, d *disk.Disk, w *Wal, what string) {
	t.Helper()
	for _, s := range []string{"", "x", strings.Repeat("l", 114), strings.Repeat("l", 115), strings.Repeat("l", 1<<16)} {
		unchanged(t, f, d, w, what+", Append", api.ErrHalt, func() api.Errno { return w.Append(s) })
		unchanged(t, f, d, w, what+", Checkpoint", api.ErrHalt, func() api.Errno { return w.Checkpoint(s) })
	}
}

// P7.2: with a fuse that fails at the write and at the flush.
func TestAppendHalts(t *testing.T) {
	for n := range 2 {
		f, d := fresh(8)
		w := opened(t, d, "fresh", 1)
		w.Append("a")
		what := fmt.Sprintf("armed with %d", n)
		before, count := all(d), f.Count()
		f.Arm(n)
		told(t, f, what, w.Append("b"), api.ErrHalt, count, n)
		look(t, w, what, 1, 2, true)
		if l := differ(d, before); len(l) != n || d.Open() != n {
			t.Errorf("%s: sectors %d changed, %d open", what, l, d.Open())
		}
		refuses(t, f, d, w, what)
		f.Reset()
		refuses(t, f, d, w, what+", reset")
		f.Arm(0)
		refuses(t, f, d, w, what+", armed with 0")
		f.Reset()
		lasts(t, d, what, 1, []string{"a", "b"}[:n+1]...)
		refuses(t, f, d, w, what+", opened elsewhere")
		look(t, w, what, 1, 2, true)
	}
}

// P7.2, rule 2: a call that is refused for another cause doesn't break the log, though the fuse would.
func TestRefusedAheadOfTheFuse(t *testing.T) {
	f, d := laid(t, 4, head(0, top), rec{1, top, 1, "a", ""})
	w := opened(t, d, "full, of the last generation", top, "a")
	f.Arm(0)
	long := strings.Repeat("l", 115)
	unchanged(t, f, d, w, "long, and full", api.ErrLong, func() api.Errno { return w.Append(long) })
	unchanged(t, f, d, w, "full", api.ErrFull, func() api.Errno { return w.Append("b") })
	unchanged(t, f, d, w, "long, and over", api.ErrLong, func() api.Errno { return w.Checkpoint(long) })
	unchanged(t, f, d, w, "over", api.ErrOver, func() api.Errno { return w.Checkpoint("b") })
	f.Reset()
	lasts(t, d, "still so", top, "a")
}

// P7.2, P7.3, rule 2: a broken log tells ErrHalt, were it too long, full or over too.
func TestBrokenIsToldFirst(t *testing.T) {
	f, d := laid(t, 6, head(0, top), rec{1, top, 1, "a", ""})
	w := opened(t, d, "room for one", top, "a")
	f.Arm(0)
	if w.Append("b") != api.ErrHalt {
		t.Error("it isn't broken")
	}
	f.Reset()
	refuses(t, f, d, w, "over")
	f, d = fresh(4)
	w = opened(t, d, "room for one", 1)
	w.Append("a")
	f.Arm(0)
	if w.Checkpoint("b") != api.ErrHalt {
		t.Error("it isn't broken")
	}
	f.Reset()
	refuses(t, f, d, w, "full")
}

// P7.3: payloads of no byte, of one, up to the room and beyond it.
func TestCheckpointLengths(t *testing.T) {
	for _, size := range []int{128, 300, 1024} {
		f := fuse.New()
		d := disk.New(size, 8, f)
		w := opened(t, d, "fresh", 1)
		room := frame.Room(size)
		for i, length := range []int{0, 1, 2, room - 1, room} {
			s := strings.Repeat("é\x00\xff", length)[:length]
			what := fmt.Sprintf("%d bytes of %d", length, size)
			for _, long := range []int{room + 1, room + 2, size, 2 * size, 1 << 16, 1 << 20} {
				unchanged(t, f, d, w, "too long", api.ErrLong, func() api.Errno { return w.Checkpoint(strings.Repeat("l", long)) })
			}
			before, count := all(d), f.Count()
			told(t, f, what, w.Checkpoint(s), api.OK, count, 4)
			look(t, w, what, i+2, 2, false)
			from := (i + 1) % 2 * 4
			if l := differ(d, before); !slices.Equal(l, []int{from, from + 1}) || d.Open() != 0 {
				t.Errorf("%s: sectors %d changed, %d open", what, l, d.Open())
			}
			holds(t, d, what, from, i+2, 0, "head")
			holds(t, d, what, from+1, i+2, 1, s)
			lasts(t, d, what, i+2, s)
		}
	}
}

// P7.3: what stands on the disk behind each of the four calls.
func TestCheckpointHalts(t *testing.T) {
	for n := range 5 {
		for _, ahead := range [][]string{nil, {"a"}, {"a", "b"}, {"a", "b", "c"}} {
			f, d := fresh(9)
			w := opened(t, d, "fresh", 1)
			for _, s := range ahead {
				w.Append(s)
			}
			what := fmt.Sprintf("%d records, armed with %d", len(ahead), n)
			before, count := all(d), f.Count()
			f.Arm(n)
			e := w.Checkpoint("all")
			wrote := [][]int{nil, {5}, {5}, {4, 5}, {4, 5}}[n]
			if l := differ(d, before); !slices.Equal(l, wrote) || d.Open() != []int{0, 1, 0, 1, 0}[n] {
				t.Errorf("%s: sectors %d changed, %d open", what, l, d.Open())
			}
			if n == 4 {
				told(t, f, what, e, api.OK, count, 4)
				look(t, w, what, 2, 2, false)
				f.Reset()
				lasts(t, d, what, 2, "all")
				continue
			}
			told(t, f, what, e, api.ErrHalt, count, n)
			look(t, w, what, 1, 3-len(ahead), true)
			refuses(t, f, d, w, what)
			f.Reset()
			refuses(t, f, d, w, what+", reset")
			look(t, w, what, 1, 3-len(ahead), true)
			if n == 3 {
				lasts(t, d, what, 2, "all")
			} else {
				lasts(t, d, what, 1, ahead...)
			}
		}
	}
}

// P7.3: at the greatest generation, and just ahead of it.
func TestOver(t *testing.T) {
	for _, from := range []int{0, 4} {
		f, d := laid(t, 8, head(from, top-1), rec{from + 1, top - 1, 1, "a", ""})
		w := opened(t, d, "one ahead", top-1, "a")
		count := f.Count()
		told(t, f, "to the last", w.Checkpoint("b"), api.OK, count, 4)
		look(t, w, "the last", top, 2, false)
		for range 2 {
			unchanged(t, f, d, w, "over", api.ErrOver, func() api.Errno { return w.Checkpoint("c") })
			unchanged(t, f, d, w, "over", api.ErrOver, func() api.Errno { return w.Checkpoint("") })
			unchanged(t, f, d, w, "long", api.ErrLong, func() api.Errno { return w.Checkpoint(strings.Repeat("l", 115)) })
		}
		records := fill(t, f, w, "the last", "b")
		unchanged(t, f, d, w, "full", api.ErrFull, func() api.Errno { return w.Append("c") })
		w = lasts(t, d, "the last", top, records...)
		unchanged(t, f, d, w, "over, opened anew", api.ErrOver, func() api.Errno { return w.Checkpoint("c") })
	}
}

// P7.3: many in a row, and Append behind each till the area is full; what an area had before is no record of it.
func TestCheckpointsInARow(t *testing.T) {
	for _, n := range []int{4, 5, 7, 8, 9, 32} {
		f, d := fresh(n)
		w := opened(t, d, "fresh", 1)
		gen := 1
		for round := range 7 {
			for again := range 1 + round%3 {
				s := fmt.Sprintf("checkpoint %d of round %d", again, round)
				before, count := all(d), f.Count()
				told(t, f, s, w.Checkpoint(s), api.OK, count, 4)
				gen++
				look(t, w, s, gen, n/2-2, false)
				from := (gen + 1) % 2 * (n / 2)
				if l := differ(d, before); !slices.Equal(l, []int{from, from + 1}) {
					t.Errorf("%s: sectors %d changed", s, l)
				}
				lasts(t, d, s, gen, s)
				if again < round%3 {
					continue
				}
				records := fill(t, f, w, s, s)
				unchanged(t, f, d, w, s, api.ErrFull, func() api.Errno { return w.Append("one more") })
				lasts(t, d, s, gen, records...)
			}
		}
	}
}

// P7.3: from a log that was found in either area the other one is taken, whatever it has.
func TestCheckpointOfWhatWasFound(t *testing.T) {
	for _, c := range []struct{ first, second, gen, to int }{
		{3, 0, 4, 4}, {0, 3, 4, 0}, {3, 2, 4, 4}, {2, 3, 4, 0}, {3, 3, 4, 4}, {9, 2, 10, 4}, {1, 9, 10, 0}, {255, 1, 256, 4}, {1, math.MaxInt32, 1 << 31, 0},
	} {
		var l []rec
		for i, gen := range []int{c.first, c.second} {
			if gen > 0 {
				l = append(l, head(4*i, gen), rec{4*i + 1, gen, 1, "a", ""}, rec{4*i + 2, gen, 2, "b", ""}, rec{4*i + 3, gen, 3, "c", ""})
			}
		}
		f, d := laid(t, 8, l...)
		what := fmt.Sprintf("heads %d and %d", c.first, c.second)
		w := opened(t, d, what, c.gen-1, "a", "b", "c")
		before, count := all(d), f.Count()
		told(t, f, what, w.Checkpoint("all"), api.OK, count, 4)
		if l := differ(d, before); !slices.Equal(l, []int{c.to, c.to + 1}) {
			t.Errorf("%s: sectors %d changed", what, l)
		}
		look(t, w, what, c.gen, 2, false)
		lasts(t, d, what, c.gen, "all")
	}
}

// byWords is the log of a disk, and its records, as the chapter's Words tell them, of sectors that have these records.
func byWords(l []rec, n int) (int, []string) {
	half, gen, from := n/2, 0, 0
	for _, area := range []int{1, 0} {
		h := l[area*half]
		if h.raw == "" && h.seq == 0 && h.gen >= 1 && h.payload == "head" && h.gen >= gen {
			gen, from = h.gen, area*half
		}
	}
	if gen == 0 {
		gen = 1
	}
	var records []string
	for place := 1; place < half; place++ {
		r := l[from+place]
		if r.raw != "" || r.gen != gen || r.seq != place {
			break
		}
		records = append(records, r.payload)
	}
	return gen, records
}

// P7.1: disks with whatever records, and none, held against the words.
func TestOpenByWords(t *testing.T) {
	seed := uint64(1)
	pick := func(n int) int {
		seed = seed*6364136223846793005 + 1442695040888963407
		return int(seed>>33) % n
	}
	zero := strings.Repeat("\x00", 128)
	most := 0
	for range 20000 {
		n := 4 + pick(9)
		l := make([]rec, n)
		for at := range l {
			// Mostly what might stand there, so that logs with records come too.
			l[at] = rec{at, 1 + pick(2), at % (n / 2), "head", ""}
			switch pick(12) {
			case 0:
				l[at] = rec{at: at, raw: zero}
			case 1:
				l[at].seq = pick(n)
			case 2:
				l[at].gen = pick(4)
			case 3, 4:
				l[at].payload = []string{"", "x", "heads"}[pick(3)]
			}
		}
		_, d := laid(t, n, l...)
		gen, records := byWords(l, n)
		opened(t, d, fmt.Sprintf("%v", l), gen, records...)
		most = max(most, len(records))
	}
	if most < 4 {
		t.Errorf("%d records at most: too few to tell", most)
	}
}
