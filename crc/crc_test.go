package crc

import (
	"fmt"
	"hash/crc32"
	"math"
	"math/bits"
	"slices"
	"strings"
	"sync"
	"testing"
)

// allBytes are the 256 bytes, in order.
func allBytes() string {
	l := make([]byte, 256)
	for i := range l {
		l[i] = byte(i)
	}
	return string(l)
}

// noise is a text of n bytes that is the same at each run.
func noise(n int, seed uint64) string {
	l := make([]byte, n)
	for i := range l {
		seed = seed*6364136223846793005 + 1442695040888963407
		l[i] = byte(seed >> 56)
	}
	return string(l)
}

func noughts(n int) string { return strings.Repeat("\x00", n) }

// slow is the sum as the chapter's Words tell it, bit by bit.
func slow(text string) uint32 {
	register := uint32(0xFFFFFFFF)
	for i := range len(text) {
		for bit := 7; bit >= 0; bit-- {
			differs := register>>31 != uint32(text[i]>>bit)&1
			register <<= 1
			if differs {
				register ^= 0x04C11DB7
			}
		}
	}
	return ^register
}

// mirrored is the sum by way of the library's, which takes the lowest bit first and is the other way round in all else too.
func mirrored(text string) uint32 {
	l := []byte(text)
	for i := range l {
		l[i] = bits.Reverse8(l[i])
	}
	return bits.Reverse32(crc32.ChecksumIEEE(l))
}

// turned is a text with the bit at place turned over, the highest of the first byte at 0.
func turned(text string, place int) string {
	l := []byte(text)
	l[place/8] ^= 0x80 >> (place % 8)
	return string(l)
}

// texts are of many lengths, with all kinds of bytes.
func texts() []string {
	l := []string{
		"", "a", "abc", "123456789", "\x00", "\xff", "\x80", "\x7f", noughts(4), noughts(37),
		"\xff\xff\xff\xff", "\x00\xff", "grün", "\xc3", allBytes(), allBytes() + allBytes(),
		strings.Repeat("\xff", 100),
	}
	for n := range 70 {
		l = append(l, noise(n, uint64(n)))
	}
	return append(l, noise(128, 1), noise(1023, 2), noise(1024, 3), noise(1025, 4), noise(70000, 5))
}

// The document's examples.
func TestExamples(t *testing.T) {
	if x := Sum("123456789"); x != 0xFC891918 {
		t.Errorf("Sum of 123456789 is %08X", x)
	}
	if x := Sum(); x != 0 {
		t.Errorf("Sum of nothing is %08X", x)
	}
	if x := Noughts(0, 1); x != Sum("\x00") || x != 0xB1F7404B {
		t.Errorf("Noughts(0, 1) is %08X", x)
	}
}

// P3.1, Sum: held against sums that the bzip2 program wrote.
func TestSumAsBzip2WritesIt(t *testing.T) {
	for _, c := range []struct {
		text string
		want uint32
	}{
		{"a", 0x19939B6B},
		{"abc", 0x648CBB73},
		{"\x00", 0xB1F7404B},
		{"\xff", 0x000000FF},
		{"The quick brown fox jumps over the lazy dog", 0x459DEE61},
		{"switchback", 0xDBD0C501},
		{allBytes(), 0xB6B5EE95},
	} {
		if got := Sum(c.text); got != c.want {
			t.Errorf("Sum(%.20q) is %08X, want %08X", c.text, got, c.want)
		}
	}
}

// P3.1, Sum: held against the chapter's Words, and against the library's sum turned round.
func TestSumAgainstOthers(t *testing.T) {
	l := texts()
	for b := range 256 {
		one := string([]byte{byte(b)})
		l = append(l, one, one+one, "ab"+one+"c", noughts(5)+one)
	}
	for _, text := range l {
		got := Sum(text)
		if want := slow(text); got != want {
			t.Errorf("Sum of %d bytes %.20q is %08X, bit by bit %08X", len(text), text, got, want)
		}
		if want := mirrored(text); got != want {
			t.Errorf("Sum of %d bytes %.20q is %08X, by the library %08X", len(text), text, got, want)
		}
	}
}

// P3.1: no parts, and empty ones.
func TestSumOfNothing(t *testing.T) {
	for _, parts := range [][]string{nil, {}, {""}, {"", ""}, {"", "", "", ""}} {
		if x := Sum(parts...); x != 0 {
			t.Errorf("Sum of %d empty parts is %08X", len(parts), x)
		}
	}
	want := Sum("ab")
	for _, parts := range [][]string{{"", "ab"}, {"ab", ""}, {"a", "", "b"}, {"", "", "a", "", "b", ""}} {
		if x := Sum(parts...); x != want {
			t.Errorf("Sum(%q) is %08X, want %08X", parts, x, want)
		}
	}
}

// P3.1: parts are taken in their order.
func TestSumTakesPartsInOrder(t *testing.T) {
	if Sum("a", "b") != Sum("ab") || Sum("b", "a") != Sum("ba") || Sum("ab") == Sum("ba") {
		t.Error("the order of parts is lost")
	}
	// Bytes 0, and parts that were there before, count as well.
	if Sum("a", "\x00") == Sum("a") || Sum("\x00", "a") == Sum("a") || Sum("a", "a") == Sum("a") {
		t.Error("a part is lost")
	}
}

// Rule 5: a list of parts stays as it is, its spare room too.
func TestSumLeavesItsParts(t *testing.T) {
	room := []string{"12345", "", "6789", "spare"}
	before := slices.Clone(room)
	for range 2 {
		if x := Sum(room[:3]...); x != 0xFC891918 {
			t.Errorf("Sum is %08X", x)
		}
	}
	if !slices.Equal(room, before) {
		t.Errorf("the parts are %q", room)
	}
}

// P3.1, Put.
func TestPut(t *testing.T) {
	for _, c := range []struct {
		x    uint32
		want string
	}{
		{0, "\x00\x00\x00\x00"},
		{1, "\x00\x00\x00\x01"},
		{0xFF, "\x00\x00\x00\xff"},
		{0x100, "\x00\x00\x01\x00"},
		{0x10000, "\x00\x01\x00\x00"},
		{0x1000000, "\x01\x00\x00\x00"},
		{0x01020304, "\x01\x02\x03\x04"},
		{0x7FFFFFFF, "\x7f\xff\xff\xff"},
		{0x80000000, "\x80\x00\x00\x00"},
		{0xFC891918, "\xfc\x89\x19\x18"},
		{math.MaxUint32 - 1, "\xff\xff\xff\xfe"},
		{math.MaxUint32, "\xff\xff\xff\xff"},
	} {
		if got := Put(c.x); got != c.want {
			t.Errorf("Put(%08X) is %x, want %x", c.x, got, c.want)
		}
	}
}

// P3.2, Right: of a text and its sum, and of these with anything else at the end.
func TestRight(t *testing.T) {
	for _, text := range texts() {
		whole := text + Put(slow(text))
		if !Right(whole) {
			t.Errorf("%.20q and its sum isn't right", text)
		}
		for name, wrong := range map[string]string{
			"a sum greater by 1":   text + Put(slow(text)+1),
			"a sum less by 1":      text + Put(slow(text)-1),
			"all bits turned over": text + Put(^slow(text)),
			"a byte behind it":     whole + "x",
			"a byte 0 behind it":   whole + "\x00",
			"a byte 1 ahead of it": "\x01" + whole,
			"its last byte gone":   whole[:len(whole)-1],
		} {
			if Right(wrong) {
				t.Errorf("%.20q and its sum is right with %s", text, name)
			}
		}
		if back := bits.ReverseBytes32(slow(text)); back != slow(text) && Right(text+Put(back)) {
			t.Errorf("%.20q and its sum is right with the lowest byte first", text)
		}
	}
	if !Right("123456789\xfc\x89\x19\x18") || Right("123456789\x18\x19\x89\xfc") || Right("123456789") || Right("123456780\xfc\x89\x19\x18") {
		t.Error("123456789")
	}
}

// P3.2, Right: fewer than four bytes.
func TestRightOfFewBytes(t *testing.T) {
	for _, b := range []string{"", "\x00", "a", "\xff", "\x00\x00", "ab", "\xff\xff", "\x00\x00\x00", "abc", "\xff\xff\xff", "\xfc\x89\x19"} {
		if Right(b) {
			t.Errorf("%x is right", b)
		}
	}
	for b := range 1 << 16 {
		if two := string([]byte{byte(b >> 8), byte(b)}); Right(two) || Right(two+"\x00") {
			t.Fatalf("%x is right", two)
		}
	}
}

// P3.2, Right: of just four bytes, those of the sum of nothing alone.
func TestRightOfFourBytes(t *testing.T) {
	if !Right("\x00\x00\x00\x00") {
		t.Error("four bytes 0 aren't right")
	}
	for place := range 32 {
		if b := turned("\x00\x00\x00\x00", place); Right(b) {
			t.Errorf("%x is right", b)
		}
	}
	for _, b := range []string{"\xff\xff\xff\xff", "abcd", "1234", "\xfc\x89\x19\x18", Put(Sum("\x00"))} {
		if Right(b) {
			t.Errorf("%x is right", b)
		}
	}
}

// P3.2, P3.3: one bit turned over, in the sum or ahead of it, is seen.
func TestRightSeesOneBit(t *testing.T) {
	for _, text := range []string{"", "a", "123456789", noughts(6), allBytes(), noise(124, 6)} {
		whole := text + Put(Sum(text))
		for place := range 8 * len(whole) {
			if Right(turned(whole, place)) {
				t.Errorf("%.20q and its sum is right with bit %d turned over", text, place)
			}
		}
	}
}

// P3.2, Noughts: the sum of a text with bytes 0 behind it.
func TestNoughts(t *testing.T) {
	for _, text := range texts() {
		x := slow(text)
		for _, n := range []int{0, 1, 2, 3, 4, 5, 31, 128, 1024} {
			if got, want := Noughts(x, n), slow(text+noughts(n)); got != want {
				t.Errorf("Noughts of %.20q and %d is %08X, want %08X", text, n, got, want)
			}
		}
	}
}

// P3.2, Noughts: none, and a number below 0.
func TestNoughtsOfNone(t *testing.T) {
	for _, x := range []uint32{0, 1, 5, 0x7FFFFFFF, 0x80000000, 0xFC891918, math.MaxUint32} {
		for _, n := range []int{0, -1, -2, -256, -1 << 12, -1<<12 - 1, math.MinInt32, math.MinInt + 1, math.MinInt} {
			if got := Noughts(x, n); got != x {
				t.Errorf("Noughts(%08X, %d) is %08X", x, n, got)
			}
		}
	}
}

// P3.2, Noughts: about 2^12, beyond which it is the same.
func TestNoughtsAtMost(t *testing.T) {
	const most = 1 << 12
	for _, text := range []string{"", "ab", allBytes()} {
		x := slow(text)
		for _, n := range []int{most - 2, most - 1, most} {
			if got, want := Noughts(x, n), slow(text+noughts(n)); got != want {
				t.Errorf("Noughts of %.20q and %d is %08X, want %08X", text, n, got, want)
			}
		}
		want := slow(text + noughts(most))
		for _, n := range []int{most + 1, most + 2, 5000, 2 * most, 1 << 16, 1 << 30, 1 << 32, math.MaxInt - 1, math.MaxInt} {
			if got := Noughts(x, n); got != want {
				t.Errorf("Noughts of %.20q and %d is %08X, want %08X", text, n, got, want)
			}
		}
	}
}

// P3.2, Noughts: in one part and in two.
func TestNoughtsInTwoParts(t *testing.T) {
	for _, x := range []uint32{0, 1, 0xFC891918, 0x80000000, math.MaxUint32} {
		for n := range 40 {
			for first := range n + 1 {
				if Noughts(Noughts(x, first), n-first) != Noughts(x, n) {
					t.Errorf("Noughts(%08X, %d) is another with %d first", x, n, first)
				}
			}
		}
		for _, first := range []int{0, 1, 2047, 2048, 4095, 4096} {
			if Noughts(Noughts(x, first), 4096-first) != Noughts(x, 4096) {
				t.Errorf("Noughts(%08X, 4096) is another with %d first", x, first)
			}
		}
	}
	// Each call has a bound of its own, so two may go beyond it.
	if Noughts(Noughts(0, 4096), 1) != slow(noughts(4097)) || Noughts(0, 4097) == slow(noughts(4097)) {
		t.Error("beyond the bound in two parts")
	}
	// The register of this sum is 0 in all its bits, which bytes 0 leave.
	if Noughts(math.MaxUint32, 1) != math.MaxUint32 || Noughts(math.MaxUint32, 4096) != math.MaxUint32 {
		t.Error("a register of 0")
	}
}

// P3.3: one text, parted in all ways; then with empty parts between.
func TestPartedInAllWays(t *testing.T) {
	for _, text := range []string{"123456789", "\x00\x00\x00\x00\x00\x00\x00", "\xff\x00\x80\x01grün", noise(12, 7)} {
		want := slow(text)
		for cuts := range 1 << (len(text) - 1) {
			var parts, spaced []string
			from := 0
			for to := 1; to <= len(text); to++ {
				if to == len(text) || cuts>>(to-1)&1 == 1 {
					parts = append(parts, text[from:to])
					spaced = append(spaced, "", text[from:to], "")
					from = to
				}
			}
			if got := Sum(parts...); got != want {
				t.Fatalf("Sum(%q) is %08X, want %08X", parts, got, want)
			}
			if got := Sum(spaced...); got != want {
				t.Fatalf("Sum(%q) is %08X, want %08X", spaced, got, want)
			}
		}
	}
}

// P3.3: a long text in two and in three parts, and byte by byte.
func TestLongTextParted(t *testing.T) {
	text := allBytes()
	want := slow(text)
	for first := range len(text) + 1 {
		if Sum(text[:first], text[first:]) != want {
			t.Errorf("parted at %d", first)
		}
		if half := first / 2; Sum(text[:half], text[half:first], text[first:]) != want {
			t.Errorf("parted at %d and %d", half, first)
		}
	}
	long := noise(5000, 8)
	var parts []string
	for i := range len(long) {
		parts = append(parts, long[i:i+1])
	}
	if Sum(parts...) != slow(long) {
		t.Error("byte by byte")
	}
}

// differing is a text with the bits of pattern turned over, its highest at place; those beyond the end are left out.
func differing(text string, place int, pattern uint32) string {
	l := []byte(text)
	for i := range 32 {
		if at := place + i; at < 8*len(l) && pattern<<i>>31 == 1 {
			l[at/8] ^= 0x80 >> (at % 8)
		}
	}
	return string(l)
}

// P3.3: texts of one length that differ within 32 bits on end, at each place.
func TestDifferingTexts(t *testing.T) {
	patterns := []uint32{1 << 31, 0xFFFFFFFF, 0x80000001, 0x04C11DB7 << 5, 0x82608EDB, 0x80000000 | 0x04C11DB7>>1, 0xEDB88320, 0xFF000000, 0xAAAAAAAA}
	for i := range 32 {
		patterns = append(patterns, 1<<31|1<<i, ^uint32(0)<<i)
	}
	seed := uint64(9)
	for range 200 {
		seed = seed*6364136223846793005 + 1442695040888963407
		patterns = append(patterns, 1<<31|uint32(seed>>32))
	}
	for _, text := range []string{"a", "ab", "1234", "56789", noughts(8), noise(20, 10), noise(128, 11)} {
		x := Sum(text)
		for place := range 8 * len(text) {
			for _, pattern := range patterns {
				other := differing(text, place, pattern)
				if Sum(other) == x {
					t.Fatalf("%x and %x have one sum", text, other)
				}
			}
		}
	}
}

// P3.3: of all texts that differ from one in two bytes on end, none has its sum.
func TestTwoBytesOfAllKinds(t *testing.T) {
	for _, around := range [][2]string{{"", ""}, {"ab", ""}, {"", "cde"}, {"\x00", "\xff\xff"}} {
		seen := make(map[uint32]int, 1<<16)
		for b := range 1 << 16 {
			x := Sum(around[0], string([]byte{byte(b >> 8), byte(b)}), around[1])
			if other, ok := seen[x]; ok {
				t.Fatalf("%04x and %04x between %q have the sum %08X", other, b, around, x)
			}
			seen[x] = b
		}
	}
}

// P3.3: for all 2^32 differences at once. What one bit does to the sum hangs on its place alone, so bits together do what each does, put together; that never comes to nothing if no bit's doing is made of others'.
func TestAllDifferencesWithin32Bits(t *testing.T) {
	const length = 40
	one, two := noughts(length), noise(length, 12)
	var does [8 * length]uint32
	for place := range does {
		does[place] = Sum(one) ^ Sum(turned(one, place))
		if does[place] != Sum(two)^Sum(turned(two, place)) {
			t.Fatalf("bit %d does another thing in another text", place)
		}
	}
	for from := 0; from+32 <= len(does); from++ {
		if n := independent(does[from : from+32]); n != 32 {
			t.Errorf("of the 32 bits from %d on only %d do a thing of their own", from, n)
		}
	}
}

// independent: how many of some words aren't made of the others by exclusive or.
func independent(words []uint32) int {
	var led [32]uint32
	n := 0
	for _, w := range words {
		for w != 0 {
			lead := bits.Len32(w) - 1
			if led[lead] == 0 {
				led[lead] = w
				n++
				break
			}
			w ^= led[lead]
		}
	}
	return n
}

// afresh lets a call be the first one again.
func afresh() {
	fillOnce, eightSteps = sync.Once{}, [256]uint32{}
}

// The chapter's Ways: whichever call comes first, its answer is right.
func TestWhicheverCallIsFirst(t *testing.T) {
	afresh()
	if x := Sum("123456789"); x != 0xFC891918 {
		t.Errorf("Sum first: %08X", x)
	}
	afresh()
	if !Right("123456789\xfc\x89\x19\x18") {
		t.Error("Right first")
	}
	afresh()
	if x := Noughts(0, 1); x != 0xB1F7404B {
		t.Errorf("Noughts first: %08X", x)
	}
}

// The chapter's Ways: the table tells of all 256 bytes what the function works out, and what the chapter's Words say.
func TestTableAgainstFunction(t *testing.T) {
	afresh()
	Noughts(0, 1)
	for b := range 256 {
		told, worked := eightSteps[b], afterEight(byte(b))
		if told != worked {
			t.Errorf("of %02X the table tells %08X, the function %08X", b, told, worked)
		}
		// The same by the Words: from a register of which no other bit is 1, bit by bit.
		slowly := uint32(b) << 24
		for range 8 {
			highest := slowly >> 31
			slowly = slowly<<1 ^ highest*0x04C11DB7
		}
		if told != slowly {
			t.Errorf("of %02X the table tells %08X, the Words %08X", b, told, slowly)
		}
	}
}

// The chapter's Ways: the table is reckoned at the first call that reads it, and not again.
func TestTableIsReckonedOnce(t *testing.T) {
	afresh()
	Noughts(0, 1)
	if eightSteps == [256]uint32{} {
		t.Fatal("it isn't reckoned at the first call")
	}
	eightSteps = [256]uint32{}
	defer afresh()
	Sum(allBytes())
	Right(allBytes())
	Noughts(5, 4096)
	if eightSteps != [256]uint32{} {
		t.Error("it is reckoned again")
	}
}

// P3.1, P3.2: answers are worked out by the function, whatever the table holds.
func TestAnswersDoNotHangOnTheTable(t *testing.T) {
	defer afresh()
	for _, held := range []uint32{0, 1, 0x04C11DB7, math.MaxUint32} {
		afresh()
		Noughts(0, 1)
		for b := range eightSteps {
			eightSteps[b] ^= held + uint32(b)
		}
		for _, text := range texts() {
			want := slow(text)
			if got := Sum(text); got != want {
				t.Errorf("Sum of %.20q is %08X, want %08X", text, got, want)
			}
			if !Right(text + Put(want)) {
				t.Errorf("%.20q and its sum isn't right", text)
			}
			if got, more := Noughts(want, 9), slow(text+noughts(9)); got != more {
				t.Errorf("Noughts of %.20q and 9 is %08X, want %08X", text, got, more)
			}
		}
	}
}

// The chapter's Ways: many who call first at one time are told the same.
func TestManyFirstCalls(t *testing.T) {
	afresh()
	text := noise(3000, 13)
	want := slow(text)
	var told [32]string
	var all sync.WaitGroup
	for i := range told {
		all.Go(func() {
			if x := Sum(text[:i], text[i:]); x != want {
				told[i] = fmt.Sprintf("%08X, want %08X", x, want)
			}
			if x := Noughts(want, i); x != slow(text+noughts(i)) {
				told[i] = fmt.Sprintf("%08X with %d bytes 0", x, i)
			}
		})
	}
	all.Wait()
	for i, s := range told {
		if s != "" {
			t.Errorf("call %d: %s", i, s)
		}
	}
}

func BenchmarkSum(b *testing.B) {
	text := noise(1024, 14)
	b.SetBytes(int64(len(text)))
	for b.Loop() {
		Sum(text)
	}
}
