package frame

import (
	"encoding/binary"
	"fmt"
	"math"
	"strings"
	"testing"

	"switchback/api"
)

const top = 1<<32 - 1

func noughts(n int) string { return strings.Repeat("\x00", n) }

// noise is a text of n bytes that is the same at each run.
func noise(n int, seed uint64) string {
	l := make([]byte, n)
	for i := range l {
		seed = seed*6364136223846793005 + 1442695040888963407
		l[i] = byte(seed >> 56)
	}
	return string(l)
}

// sumOf is layer 3's sum as its chapter's Words tell it, bit by bit.
func sumOf(text string) uint32 {
	register := uint32(0xFFFFFFFF)
	for i := range len(text) {
		for bit := 7; bit >= 0; bit-- {
			differs := register>>31 != uint32(text[i]>>bit)&1
			register <<= 1
			if differs {
				register ^= 0x04C11DB7
			}
		}
	}
	return ^register
}

// ten are the bytes ahead of the sum.
func ten(length, gen, seq int) string {
	b := binary.BigEndian.AppendUint16(nil, uint16(length))
	b = binary.BigEndian.AppendUint32(b, uint32(gen))
	return string(binary.BigEndian.AppendUint32(b, uint32(seq)))
}

// four are a sum's bytes.
func four(x uint32) string { return string(binary.BigEndian.AppendUint32(nil, x)) }

// asWords is a sector with a record as the chapter's Words tell it.
func asWords(gen, seq int, payload string, size int) string {
	b := make([]byte, size)
	copy(b, ten(len(payload), gen, seq))
	copy(b[10:], four(sumOf(string(b[:10])+payload)))
	copy(b[14:], payload)
	return string(b)
}

// found is whether a text is a sector with a record, by a look at each of its parts.
func found(b string) bool {
	if len(b) < 128 || len(b) > 1024 {
		return false
	}
	end := 14 + int(binary.BigEndian.Uint16([]byte(b)))
	if end > len(b) || strings.Trim(b[end:], "\x00") != "" {
		return false
	}
	return binary.BigEndian.Uint32([]byte(b[10:])) == sumOf(b[:10]+b[14:end])
}

// must is a sector that is put without an error.
func must(t *testing.T, gen, seq int, payload string, size int) string {
	t.Helper()
	b, e := Put(gen, seq, payload, size)
	if e != api.OK {
		t.Fatalf("Put(%d, %d, %d bytes, %d): %d", gen, seq, len(payload), size, e)
	}
	return b
}

// none complains unless there is no record in a text, and nothing is told of one.
func none(t *testing.T, what, b string) {
	t.Helper()
	if gen, seq, payload, ok := Get(b); gen != 0 || seq != 0 || payload != "" || ok {
		t.Errorf("%s: Get tells %d, %d, %d bytes, %t; want no record", what, gen, seq, len(payload), ok)
	}
}

// got complains unless this record is in a text.
func got(t *testing.T, what, b string, wantGen, wantSeq int, want string) {
	t.Helper()
	if gen, seq, payload, ok := Get(b); gen != wantGen || seq != wantSeq || payload != want || !ok {
		t.Errorf("%s: Get tells %d, %d, %.20q (%d bytes), %t; want %d, %d, %.20q (%d bytes)", what, gen, seq, payload, len(payload), ok, wantGen, wantSeq, want, len(want))
	}
}

// differ tells the first byte at which two texts differ.
func differ(b, want string) string {
	for i := range min(len(b), len(want)) {
		if b[i] != want[i] {
			return fmt.Sprintf("byte %d is %02X; want %02X", i, b[i], want[i])
		}
	}
	return fmt.Sprintf("%d bytes; want %d", len(b), len(want))
}

// turned is a text with bits turned over from a place on, the highest of the first byte at 0.
func turned(text string, place int, pattern uint32) string {
	l := []byte(text)
	for i := range 32 {
		if pattern<<i>>31 == 1 {
			l[(place+i)/8] ^= 0x80 >> ((place + i) % 8)
		}
	}
	return string(l)
}

// The document's example.
func TestExample(t *testing.T) {
	want := "\x00\x00" + "\x00\x00\x00\x01" + "\x00\x00\x00\x00" + "\x27\x1b\x36\x4a" + noughts(114)
	if b, e := Put(1, 0, "", 128); b != want || e != api.OK {
		t.Errorf("Put(1, 0, empty, 128): %s; %d", differ(b, want), e)
	}
	got(t, "the example", want, 1, 0, "")
}

// P6.1, Room: size less 14 within the bounds, 0 outside of them.
func TestRoom(t *testing.T) {
	for _, x := range []struct{ size, want int }{
		{math.MinInt, 0}, {-128, 0}, {-1, 0}, {0, 0}, {1, 0}, {13, 0}, {14, 0}, {15, 0}, {127, 0},
		{128, 114}, {129, 115}, {512, 498}, {1023, 1009}, {1024, 1010},
		{1025, 0}, {1038, 0}, {2048, 0}, {1<<32 + 128, 0}, {math.MaxInt, 0},
	} {
		if n := Room(x.size); n != x.want {
			t.Errorf("Room(%d): %d; want %d", x.size, n, x.want)
		}
	}
	for size := 128; size <= 1024; size++ {
		if n := Room(size); n != size-14 {
			t.Errorf("Room(%d): %d; want %d", size, n, size-14)
		}
	}
}

// P6.1, Put: which error is told, and an empty text beside it. ErrRange goes ahead of ErrLong.
func TestPutErrors(t *testing.T) {
	for _, x := range []struct {
		gen, seq, length, size int
		want                   api.Errno
	}{
		{0, 0, 0, math.MinInt, api.ErrRange},
		{0, 0, 0, -1, api.ErrRange},
		{0, 0, 0, 0, api.ErrRange},
		{0, 0, 0, 14, api.ErrRange},
		{0, 0, 0, 127, api.ErrRange},
		{0, 0, 0, 128, api.OK},
		{0, 0, 0, 1024, api.OK},
		{0, 0, 0, 1025, api.ErrRange},
		{0, 0, 0, 1<<32 + 128, api.ErrRange},
		{0, 0, 0, math.MaxInt, api.ErrRange},

		{math.MinInt, 0, 0, 128, api.ErrRange},
		{-1, 0, 0, 128, api.ErrRange},
		{top, 0, 0, 128, api.OK},
		{top + 1, 0, 0, 128, api.ErrRange},
		{math.MaxInt, 0, 0, 128, api.ErrRange},
		{0, math.MinInt, 0, 128, api.ErrRange},
		{0, -1, 0, 128, api.ErrRange},
		{0, top, 0, 128, api.OK},
		{0, top + 1, 0, 128, api.ErrRange},
		{0, math.MaxInt, 0, 128, api.ErrRange},
		{-1, top + 1, 0, 127, api.ErrRange},

		{0, 0, 1, 128, api.OK},
		{0, 0, 114, 128, api.OK},
		{0, 0, 115, 128, api.ErrLong},
		{0, 0, 128, 128, api.ErrLong},
		{0, 0, 115, 129, api.OK},
		{0, 0, 1010, 1024, api.OK},
		{0, 0, 1011, 1024, api.ErrLong},
		{0, 0, 1024, 1024, api.ErrLong},
		{0, 0, 1 << 16, 1024, api.ErrLong},
		{0, 0, 1<<16 + 1, 128, api.ErrLong},
		{top, top, 1011, 1024, api.ErrLong},

		{0, 0, 115, 127, api.ErrRange},
		{0, 0, 1, 127, api.ErrRange},
		{0, 0, 2000, 1025, api.ErrRange},
		{-1, 0, 115, 128, api.ErrRange},
		{0, -1, 115, 128, api.ErrRange},
		{top + 1, 0, 1011, 1024, api.ErrRange},
		{0, top + 1, 1011, 1024, api.ErrRange},
	} {
		b, e := Put(x.gen, x.seq, strings.Repeat("a", x.length), x.size)
		if e != x.want || e != api.OK && b != "" {
			t.Errorf("Put(%d, %d, %d bytes, %d): %d bytes, %d; want %d", x.gen, x.seq, x.length, x.size, len(b), e, x.want)
		}
	}
}

// P6.1, Put: each byte of a sector, written out.
func TestPutBytes(t *testing.T) {
	want := "\x00\x05" + "\x01\x02\x03\x04" + "\xf5\xf6\xf7\xf8" + "\xa1\xd3\xc0\x15" + "hello" + noughts(109)
	if b := must(t, 0x01020304, 0xf5f6f7f8, "hello", 128); b != want {
		t.Error(differ(b, want))
	}
	if b := must(t, 0x01020304, 0xf5f6f7f8, "hello", 1024); b != want+noughts(896) {
		t.Error(differ(b, want+noughts(896)))
	}
	long := must(t, 1, 2, strings.Repeat("a", 0x0302), 1024)
	if long[:2] != "\x03\x02" {
		t.Errorf("the length of 302 (sixteen digits) bytes is told as %q", long[:2])
	}
}

// records are of all the edges: generations, numbers, payloads that end with bytes 0 or have nothing else.
func records(size int) (gens, seqs []int, payloads []string) {
	gens = []int{0, 1, 255, 256, 1 << 20, 1<<31 - 1, 1 << 31, top - 1, top}
	seqs = []int{0, 1, 7, 1 << 16, 0x80000000, top}
	room := size - 14
	payloads = []string{
		"", "a", "\x00", "\xff", "head", "a\x00", noughts(room), noughts(room - 1), strings.Repeat("\xff", room),
		noise(room/2, 1), noise(room-1, 2), noise(room, 3), "grün\x80",
	}
	return gens, seqs, payloads
}

// P6.1, P6.2 and P6.3: what is put is as the chapter's Words tell, and is got.
func TestPutIsGot(t *testing.T) {
	for _, size := range []int{128, 129, 270, 271, 1023, 1024} {
		gens, seqs, payloads := records(size)
		for _, gen := range gens {
			for _, seq := range seqs {
				for i, payload := range payloads {
					what := fmt.Sprintf("size %d, payload %d of generation %d, number %d", size, i, gen, seq)
					b := must(t, gen, seq, payload, size)
					if want := asWords(gen, seq, payload, size); b != want {
						t.Fatalf("%s: %s", what, differ(b, want))
					}
					got(t, what, b, gen, seq, payload)
				}
			}
		}
	}
}

// P6.3: each length of a payload, in a small and in a great sector.
func TestEachLength(t *testing.T) {
	for _, size := range []int{128, 1024} {
		for n := range size - 14 + 1 {
			payload := noise(n, uint64(n))
			b := must(t, 3, 4, payload, size)
			if want := asWords(3, 4, payload, size); b != want {
				t.Fatalf("%d bytes in %d: %s", n, size, differ(b, want))
			}
			got(t, fmt.Sprintf("%d bytes in %d", n, size), b, 3, 4, payload)
		}
	}
}

// P6.2: texts that are no sector with a record.
func TestNoRecord(t *testing.T) {
	hello := must(t, 9, 8, "hello", 128)
	full := must(t, 9, 8, strings.Repeat("f", 114), 128)
	great := must(t, 9, 8, "hello", 1024)
	tooLong := func(length int, payload string) string {
		head := ten(length, 9, 8)
		return head + four(sumOf(head+payload)) + payload
	}
	low := func(b string) string { return b[:10] + string([]byte{b[13], b[12], b[11], b[10]}) + b[14:] }
	for _, x := range []struct{ what, b string }{
		{"no byte", ""},
		{"one byte", "\x00"},
		{"the ten bytes alone", hello[:10]},
		{"up to the payload", hello[:14]},
		{"127 bytes", hello[:127]},
		{"127 bytes, the last of which are 0", must(t, 1, 1, "", 128)[:127]},
		{"1025 bytes", great + "\x00"},
		{"2000 bytes", great + noughts(976)},
		{"128 bytes 0", noughts(128)},
		{"1024 bytes 0", noughts(1024)},
		{"bytes FF", strings.Repeat("\xff", 512)},
		{"a sum 0", hello[:10] + noughts(4) + hello[14:]},
		{"the sum of the ten bytes alone", hello[:10] + four(sumOf(hello[:10])) + hello[14:]},
		{"the sum of the payload alone", hello[:10] + four(sumOf("hello")) + hello[14:]},
		{"the sum of the bytes 0 too", hello[:10] + four(sumOf(hello[:10]+hello[14:])) + hello[14:]},
		{"the sum with its bits turned over", hello[:10] + four(^sumOf(hello[:10]+"hello")) + hello[14:]},
		{"the sum with its lowest byte first", low(hello)},
		{"another's sum", hello[:10] + full[10:14] + hello[14:]},
		{"a length of one more than the room", tooLong(115, strings.Repeat("f", 114))},
		{"a length of one more, of bytes 0", tooLong(115, noughts(114))},
		{"a length of the sector's size", tooLong(128, strings.Repeat("f", 114))},
		{"a length of 100 (sixteen digits)", tooLong(0x100, strings.Repeat("f", 114))},
		{"the greatest length", tooLong(0xffff, strings.Repeat("f", 114))},
		{"the greatest length in 1024 bytes", tooLong(0xffff, noise(1010, 1))},
		{"one more than the room in 1024 bytes", tooLong(1011, noise(1010, 1))},
		{"a shorter length", "\x00\x04" + hello[2:]},
		{"a longer length", "\x00\x06" + hello[2:]},
		{"the length with its lower byte first", "\x05\x00" + great[2:]},
		{"a byte 1 just behind the payload", hello[:19] + "\x01" + hello[20:]},
		{"a byte 1 in the midst of the bytes 0", hello[:60] + "\x01" + hello[61:]},
		{"a byte 1 at the end", hello[:127] + "\x01"},
		{"a byte 80 at the end of 1024 bytes", great[:1023] + "\x80"},
		{"two records", hello + full},
		{"a record a byte later", "\x00" + hello[:127]},
		{"halves of two", hello[:64] + full[64:]},
		{"halves of two, the other way round", full[:64] + hello[64:]},
		{"a sector of which 16 bytes were torn off", full[:112] + noughts(16)},
		{"a sector of which the payload was torn off", full[:14] + noughts(114)},
	} {
		none(t, x.what, x.b)
	}
}

// P6.2: a sector's record is of the sector's own size, whatever bytes 0 are cut off or put behind it.
func TestOwnSize(t *testing.T) {
	for _, length := range []int{0, 5, 114, 115, 500, 1010} {
		payload := strings.Repeat("p", length)
		whole := must(t, 2, 3, payload, 1024) + noughts(100)
		for size := range len(whole) + 1 {
			what := fmt.Sprintf("%d bytes of a record of %d", size, length)
			if size < 128 || size > 1024 || size < 14+length {
				none(t, what, whole[:size])
				continue
			}
			got(t, what, whole[:size], 2, 3, payload)
		}
	}
}

// P6.2 and P6.3: with any one bit changed, in whichever part, a sector has no record.
func TestOneBit(t *testing.T) {
	for _, size := range []int{128, 1024} {
		for _, length := range []int{0, 1, 40, size - 14} {
			b := must(t, 5, 6, noise(length, 4), size)
			for bit := range size * 8 {
				none(t, fmt.Sprintf("size %d, length %d, bit %d", size, length, bit), turned(b, bit, 1<<31))
			}
		}
	}
}

// P6.3: with bits changed within 32 on end of the payload a sector has no record.
func TestBitsOnEnd(t *testing.T) {
	for _, length := range []int{4, 5, 50, 114} {
		b := must(t, top, top, noise(length, 5), 128)
		for from := 0; from+32 <= length*8; from++ {
			// 04C11DB7 and its kin are what a sum of this kind is made of.
			for i, pattern := range []uint32{1, 3, 1 << 31, 1<<31 | 1, math.MaxUint32, 0x04C11DB7, 0x82608EDB, 0x09823B6E, uint32(from)*2654435761 | 1} {
				none(t, fmt.Sprintf("length %d, bits from %d on, pattern %d", length, from, i), turned(b, 14*8+from, pattern))
			}
		}
	}
}

// P6.2 and P6.3: whatever bytes a sector has, a record is got where there is one by a look at each part; and what is got is put as it was.
func TestGotIsPut(t *testing.T) {
	seen := map[bool]int{}
	look := func(b string) {
		gen, seq, payload, ok := Get(b)
		seen[ok]++
		if ok != found(b) {
			t.Errorf("Get tells %t of %d bytes, the first of them % X", ok, len(b), b[:min(len(b), 20)])
		}
		if !ok {
			none(t, "without a record", b)
			return
		}
		if again := must(t, gen, seq, payload, len(b)); again != b {
			t.Errorf("put again: %s", differ(again, b))
		}
	}
	for n := range 1100 {
		look(noise(n, uint64(n)))
		look(noughts(n))
	}
	for seed := range uint64(3000) {
		size := 128 + int(seed%897)
		room := size - 14
		length := int(seed * 7919 % uint64(room+3))
		body := noise(min(length, room), seed)
		head := string([]byte{byte(length >> 8), byte(length)}) + noise(8, seed+1)
		b := head + four(sumOf(head+body)) + body + noughts(room-len(body))
		look(b)
		look(turned(b+noughts(4), int(seed*31%uint64(size*8)), 1<<31)[:size])
	}
	if seen[true] < 2000 || seen[false] < 4000 {
		t.Errorf("%d texts with a record, %d without: too few to tell", seen[true], seen[false])
	}
}
