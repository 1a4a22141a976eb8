package code

import (
	"encoding/binary"
	"math"
	"slices"
	"strings"
	"testing"

	"switchback/api"
)

// edge is a number and its bytes, written out.
type edge struct {
	n int
	b string
}

// edges are 0 and the numbers at each edge of seven bits, in order.
func edges() []edge {
	ff := func(n int) string { return strings.Repeat("\xff", n) }
	oo := func(n int) string { return strings.Repeat("\x80", n) }
	l := []edge{{0, "\x00"}, {1, "\x01"}}
	for groups := 1; groups <= 8; groups++ {
		l = append(l,
			edge{1<<(7*groups) - 1, ff(groups-1) + "\x7f"},
			edge{1 << (7 * groups), oo(groups) + "\x01"},
			edge{1<<(7*groups) + 1, "\x81" + oo(groups-1) + "\x01"})
	}
	return append(l, edge{math.MaxInt - 1, "\xfe" + ff(7) + "\x7f"}, edge{math.MaxInt, ff(8) + "\x7f"})
}

// source is a row of numbers that is the same at each run.
type source uint64

func (s *source) next() uint64 {
	*s = *s*6364136223846793005 + 1442695040888963407
	return uint64(*s >> 11)
}

// number is one of any count of bits, from none to 63.
func (s *source) number() int {
	bits := s.next() % 64
	return int((s.next() ^ s.next()<<32) & (1<<bits - 1))
}

func (s *source) numbers(count int) []int {
	l := make([]int, count)
	for i := range l {
		l[i] = s.number()
	}
	return l
}

// asWords are numbers' bytes by the library's own way to put groups of seven bits.
func asWords(l []int) string {
	var b []byte
	for _, n := range l {
		b = binary.AppendUvarint(b, uint64(n))
	}
	return string(b)
}

// asPromised is what P8.2 asks of bytes: each number is parted from the rest first, and read by the library.
func asPromised(b string) ([]int, api.Errno) {
	var l []int
	for b != "" {
		last := slices.IndexFunc([]byte(b), func(x byte) bool { return x < 128 })
		switch {
		case last > 8, last < 0 && len(b) > 8:
			return nil, api.ErrLong
		case last < 0:
			return nil, api.ErrForm
		case last > 0 && b[last] == 0:
			return nil, api.ErrLong
		}
		n, _ := binary.Uvarint([]byte(b[:last+1]))
		l, b = append(l, int(n)), b[last+1:]
	}
	return l, api.OK
}

// put complains unless Put tells these bytes.
func put(t *testing.T, want string, l ...int) {
	t.Helper()
	if b, ok := Put(l...); b != want || !ok {
		t.Errorf("Put(%d): % X, %t; want % X", l, b, ok, want)
	}
}

// refused complains unless Put tells the empty text, and false.
func refused(t *testing.T, l ...int) {
	t.Helper()
	if b, ok := Put(l...); b != "" || ok {
		t.Errorf("Put(%d): % X, %t; want no bytes, and false", l, b, ok)
	}
}

// got complains unless Get tells these numbers.
func got(t *testing.T, b string, want ...int) {
	t.Helper()
	if l, e := Get(b); !slices.Equal(l, want) || e != api.OK {
		t.Errorf("Get(% X): %d, %d; want %d", b, l, e, want)
	}
}

// wrong complains unless Get tells this error, and no number.
func wrong(t *testing.T, b string, want api.Errno) {
	t.Helper()
	if l, e := Get(b); len(l) != 0 || e != want {
		t.Errorf("Get(% X): %d, %d; want no number, and %d", b, l, e, want)
	}
}

// The document's examples.
func TestExample(t *testing.T) {
	put(t, "\x05\xac\x02", 5, 300)
	got(t, "\x05\xac\x02", 5, 300)
	wrong(t, "\x80\x00", api.ErrLong)
	wrong(t, "\x80", api.ErrForm)
}

// P8.1 and P8.2: no number, and no byte.
func TestNothing(t *testing.T) {
	put(t, "")
	put(t, "", []int{}...)
	put(t, "", nil...)
	got(t, "")
}

// P8.1 and P8.2: each number at an edge, alone and beside each other.
func TestEdges(t *testing.T) {
	for _, x := range edges() {
		put(t, x.b, x.n)
		got(t, x.b, x.n)
		for _, y := range edges() {
			put(t, x.b+y.b, x.n, y.n)
			got(t, x.b+y.b, x.n, y.n)
		}
	}
}

// P8.1 and P8.2: all the edges, one behind the other, from the least and from the greatest on.
func TestSeveral(t *testing.T) {
	var l []int
	var b string
	for _, x := range edges() {
		l, b = append(l, x.n), b+x.b
		put(t, b, l...)
		got(t, b, l...)
	}
	l, b = nil, ""
	for _, x := range slices.Backward(edges()) {
		l, b = append(l, x.n), b+x.b
		put(t, b, l...)
		got(t, b, l...)
	}
	put(t, "\x00\x00\x00", 0, 0, 0)
	got(t, "\x00\x00\x00", 0, 0, 0)
	got(t, "\x00\x01\x00", 0, 1, 0)
}

// P8.1: a number below 0, wherever it stands.
func TestPutBelow(t *testing.T) {
	for _, low := range []int{-1, -2, -127, -128, -129, -1 << 14, -1 << 31, -1 << 32, -1 << 56, math.MinInt + 1, math.MinInt} {
		refused(t, low)
		refused(t, low, low)
		for _, x := range edges() {
			refused(t, low, x.n)
			refused(t, low, x.n, x.n)
			refused(t, x.n, low, x.n)
			refused(t, x.n, low)
			refused(t, x.n, x.n, low)
		}
	}
	long := make([]int, 1000)
	for i := range long {
		long[i] = -1
		refused(t, long...)
		long[i] = i
	}
}

// ahead are bytes of numbers that are right.
func ahead() []string {
	return []string{"", "\x00", "\x7f", "\x05\xac\x02", "\xff\xff\xff\xff\xff\xff\xff\xff\x7f", "\x80\x80\x80\x80\x80\x80\x80\x80\x01\x00"}
}

// P8.2: a ninth byte up to 127 ends a number; of 128 and above it is ErrLong, whatever stands behind it.
func TestNinthByte(t *testing.T) {
	for _, eight := range []string{strings.Repeat("\x80", 8), strings.Repeat("\xff", 8), "\x81\x80\xff\x80\x80\x80\x80\x80"} {
		low := 0
		for i := range 8 {
			low |= int(eight[i]&127) << (7 * i)
		}
		for ninth := 1; ninth < 128; ninth++ {
			got(t, eight+string([]byte{byte(ninth)}), low|ninth<<56)
		}
		for ninth := 128; ninth < 256; ninth++ {
			for _, front := range ahead() {
				b := front + eight + string([]byte{byte(ninth)})
				for _, behind := range []string{"", "\x00", "\x01", "\x7f", "\x80", "\x80\x00", "\xff\xff", "\x80\x01", "\x05\xac\x02"} {
					wrong(t, b+behind, api.ErrLong)
				}
			}
		}
	}
}

// P8.2: several bytes the last of which is 0, of each length; one byte 0 is the number 0.
func TestLastByteNought(t *testing.T) {
	got(t, "\x00", 0)
	for length := 2; length <= 9; length++ {
		for _, each := range []string{"\x80", "\x81", "\xff"} {
			for _, front := range ahead() {
				b := front + strings.Repeat(each, length-1) + "\x00"
				for _, behind := range []string{"", "\x00", "\x01", "\x80", "\x80\x00"} {
					wrong(t, b+behind, api.ErrLong)
				}
			}
		}
	}
}

// P8.2: bytes that end within a number, at each place of each number.
func TestEndWithin(t *testing.T) {
	for _, x := range edges() {
		for end := 1; end < len(x.b); end++ {
			for _, front := range ahead() {
				wrong(t, front+x.b[:end], api.ErrForm)
			}
		}
	}
	for length := 1; length <= 8; length++ {
		for _, each := range []string{"\x80", "\x81", "\xff"} {
			wrong(t, strings.Repeat(each, length), api.ErrForm)
		}
	}
}

// P8.2: of two errors the one of the first number is told.
func TestFirstError(t *testing.T) {
	long := []string{"\x80\x00", "\x81\x80\x00", strings.Repeat("\xff", 8) + "\x00", strings.Repeat("\x80", 9), strings.Repeat("\xff", 20)}
	short := []string{"\x80", "\xff\xff", strings.Repeat("\x80", 8)}
	for _, front := range ahead() {
		for _, x := range long {
			for _, y := range append(short, long...) {
				wrong(t, front+x+y, api.ErrLong)
				wrong(t, front+x+"\x05"+y, api.ErrLong)
			}
		}
		for _, y := range short {
			wrong(t, front+"\x80\x01"+y, api.ErrForm)
		}
	}
}

// P8.3: what is put is got, over many lists.
func TestPutIsGot(t *testing.T) {
	s := source(1)
	for round := range 20000 {
		l := s.numbers(round % 24)
		b, ok := Put(l...)
		if want := asWords(l); b != want || !ok {
			t.Fatalf("Put(%d): % X, %t; want % X", l, b, ok, want)
		}
		if back, e := Get(b); !slices.Equal(back, l) || e != api.OK {
			t.Fatalf("Get(% X): %d, %d; want %d", b, back, e, l)
		}
	}
	for n := range 1 << 16 {
		put(t, asWords([]int{n}), n)
		got(t, asWords([]int{n}), n)
	}
}

// look complains unless Get tells of bytes what P8.2 asks, and Put makes them again of what is got.
func look(t *testing.T, seen map[api.Errno]int, b string) {
	t.Helper()
	l, e := Get(b)
	seen[e]++
	if want, wantE := asPromised(b); !slices.Equal(l, want) || e != wantE {
		t.Fatalf("Get(% X): %d, %d; want %d, %d", b, l, e, want, wantE)
	}
	if e != api.OK {
		return
	}
	if again, ok := Put(l...); again != b || !ok {
		t.Fatalf("Get(% X): %d; put again: % X, %t", b, l, again, ok)
	}
}

// enough complains unless each answer was seen often.
func enough(t *testing.T, seen map[api.Errno]int) {
	t.Helper()
	for _, e := range []api.Errno{api.OK, api.ErrLong, api.ErrForm} {
		if seen[e] < 500 {
			t.Errorf("%d texts with answer %d: too few to tell", seen[e], e)
		}
	}
}

// P8.2 and P8.3: what is got is put as it was, over all texts of up to two bytes, all of up to eleven of few bytes, and many others.
func TestGotIsPut(t *testing.T) {
	seen := map[api.Errno]int{}
	for x := range 256 {
		look(t, seen, string([]byte{byte(x)}))
		for y := range 256 {
			look(t, seen, string([]byte{byte(x), byte(y)}))
		}
	}
	texts := []string{""}
	for range 11 {
		var longer []string
		for _, b := range texts {
			longer = append(longer, b+"\x00", b+"\x01", b+"\x80")
		}
		texts = longer
		for _, b := range texts {
			look(t, seen, b)
		}
	}
	enough(t, seen)
}

// P8.2 and P8.3: the same over noise, with few and with many bytes of 128 and above.
func TestNoise(t *testing.T) {
	seen := map[api.Errno]int{}
	s := source(2)
	for round := range 60000 {
		b := make([]byte, round%40)
		for i := range b {
			b[i] = byte(s.next()) & 127
			if s.next()%16 < uint64(round%17) {
				b[i] |= 128
			}
		}
		look(t, seen, string(b))
	}
	enough(t, seen)
}

// P8.3: one spelling: among the texts of up to two bytes those are got that Put makes of a list, and no others.
func TestOneSpelling(t *testing.T) {
	made := map[string]bool{}
	for n := range 1 << 14 {
		b, _ := Put(n)
		made[b] = true
	}
	for x := range 128 {
		for y := range 128 {
			b, _ := Put(x, y)
			made[b] = true
		}
	}
	if len(made) != 1<<14+1<<14 {
		t.Errorf("%d texts are put, want %d: two lists have one text", len(made), 1<<14+1<<14)
	}
	for x := range 256 {
		for y := range 256 {
			b := string([]byte{byte(x), byte(y)})
			if _, e := Get(b); (e == api.OK) != made[b] {
				t.Errorf("Get(% X): %d, and that it is put is %t", b, e, made[b])
			}
		}
	}
}

// Rule 5: what is handed to Put stays as it is, its spare room too; what Get answers is new memory.
func TestMemory(t *testing.T) {
	room := []int{5, 300, math.MaxInt, -7, 9}
	put(t, "\x05\xac\x02", room[:2]...)
	refused(t, room[:4]...)
	if want := []int{5, 300, math.MaxInt, -7, 9}; !slices.Equal(room, want) {
		t.Errorf("what was handed in is %d now; it was %d", room, want)
	}
	b := "\x05\xac\x02"
	one, _ := Get(b)
	two, _ := Get(b)
	for i := range one {
		one[i] = -1
	}
	if want := []int{5, 300}; !slices.Equal(two, want) {
		t.Errorf("a second answer is %d, as the first was changed; want %d", two, want)
	}
	got(t, b, 5, 300)
}

// Texts and lists as long as a program may be given are done.
func TestLong(t *testing.T) {
	const count = 1 << 20
	l := slices.Repeat([]int{math.MaxInt}, count)
	b, ok := Put(l...)
	if len(b) != 9*count || !ok {
		t.Fatalf("Put of %d numbers: %d bytes, %t", count, len(b), ok)
	}
	if back, e := Get(b); !slices.Equal(back, l) || e != api.OK {
		t.Errorf("Get of %d bytes: %d numbers, %d", len(b), len(back), e)
	}
	if back, e := Get(b + "\x80"); len(back) != 0 || e != api.ErrForm {
		t.Errorf("with a byte 80 behind them: %d numbers, %d", len(back), e)
	}
	if back, e := Get(strings.Repeat("\x80", 1<<24)); len(back) != 0 || e != api.ErrLong {
		t.Errorf("bytes 80 alone: %d numbers, %d", len(back), e)
	}
	l[count-1] = -1
	refusedLong, ok := Put(l...)
	if refusedLong != "" || ok {
		t.Errorf("with a last number below 0: %d bytes, %t", len(refusedLong), ok)
	}
}
