package num

import (
	"math"
	"math/big"
	"testing"
)

const (
	greatest = math.MaxInt
	lowest   = math.MinInt
)

// edges are numbers about each place where a call's answer may turn.
var edges = []int{
	lowest, lowest + 1, lowest / 2, -5, -2, -1, 0, 1, 2, 3, 4, 5, 9,
	1 << 20, 1<<30 - 1, 1 << 30, 1 << 31, 1 << 32, 1<<62 - 1, 1 << 62, 1<<62 + 1,
	greatest - 2, greatest - 1, greatest,
}

// P1.1, Add.
func TestAdd(t *testing.T) {
	for _, c := range []struct {
		name             string
		a, b, most, want int
	}{
		{"the document's example", 3, 4, 5, 5},
		{"below most", 3, 4, 9, 7},
		{"just below most", 3, 4, 8, 7},
		{"most itself", 3, 4, 7, 7},
		{"just above most", 3, 4, 6, 6},
		{"noughts", 0, 0, 9, 0},
		{"a nought behind", 5, 0, 5, 5},
		{"a nought ahead", 0, 5, 5, 5},
		{"a alone above most", 9, 0, 5, 5},
		{"b alone above most", 0, 9, 5, 5},
		{"both above most", 9, 9, 5, 5},
		{"a below 0", -5, 3, 9, 3},
		{"b below 0", 3, -5, 9, 3},
		{"both below 0", -5, -3, 9, 0},
		{"a below 0, b above most", -5, 9, 4, 4},
		{"the lowest a", lowest, 3, 9, 3},
		{"the lowest b", 3, lowest, 9, 3},
		{"the lowest twice", lowest, lowest, 9, 0},
		{"most 0", 3, 4, 0, 0},
		{"most below 0", 9, 9, -1, 0},
		{"most below 0, noughts", 0, 0, -1, 0},
		{"all below 0", -3, -2, -1, 0},
		{"the lowest most", 3, 4, lowest, 0},
		{"the greatest number", greatest - 1, 1, greatest, greatest},
		{"beyond the greatest number by 1", greatest, 1, greatest, greatest},
		{"beyond the greatest number by 1, b great", 1, greatest, greatest, greatest},
		{"far beyond the greatest number", greatest, greatest, greatest, greatest},
		{"beyond the greatest number, most small", greatest, greatest, 5, 5},
		{"two halves beyond it", 1 << 62, 1 << 62, greatest, greatest},
		{"two halves within it", 1 << 62, 1<<62 - 1, greatest, greatest},
		{"the greatest and the lowest", greatest, lowest, greatest, greatest},
	} {
		if got := Add(c.a, c.b, c.most); got != c.want {
			t.Errorf("%s: Add(%d, %d, %d) = %d, want %d", c.name, c.a, c.b, c.most, got, c.want)
		}
	}
}

// P1.1, Less.
func TestLess(t *testing.T) {
	for _, c := range []struct {
		name       string
		a, b, want int
	}{
		{"the document's example", 3, 4, 0},
		{"above", 9, 4, 5},
		{"above by 1", 5, 4, 1},
		{"the same", 4, 4, 0},
		{"below by 1", 4, 5, 0},
		{"both below 0", -1, -3, 2},
		{"both below 0, not above", -3, -1, 0},
		{"less a number below 0", 3, -4, 7},
		{"below 0 less above 0", -4, 3, 0},
		{"less 0", 4, 0, 4},
		{"0 less", 0, 4, 0},
		{"just 2^63 - 1, from 0", greatest, 0, greatest},
		{"just 2^63 - 1, from the lowest", -1, lowest, greatest},
		{"just 2^63 - 2", greatest, 1, greatest - 1},
		{"2^63, from -1", greatest, -1, greatest},
		{"2^63, from the lowest", 0, lowest, greatest},
		{"2^63, by halves", 1 << 62, -1 << 62, greatest},
		{"2^63 + 1", 1, lowest, greatest},
		{"the furthest apart", greatest, lowest, greatest},
		{"the furthest apart, not above", lowest, greatest, 0},
		{"wraps to above 0, not above", lowest, 1, 0},
		{"the greatest twice", greatest, greatest, 0},
		{"the lowest twice", lowest, lowest, 0},
	} {
		if got := Less(c.a, c.b); got != c.want {
			t.Errorf("%s: Less(%d, %d) = %d, want %d", c.name, c.a, c.b, got, c.want)
		}
	}
}

// P1.1, Clamp.
func TestClamp(t *testing.T) {
	for _, c := range []struct {
		name               string
		n, low, high, want int
	}{
		{"between", 2, 0, 3, 2},
		{"below", -1, 0, 3, 0},
		{"above", 4, 0, 3, 3},
		{"low itself", 0, 0, 3, 0},
		{"high itself", 3, 0, 3, 3},
		{"one number alone, below", 4, 5, 5, 5},
		{"one number alone, it", 5, 5, 5, 5},
		{"one number alone, above", 6, 5, 5, 5},
		{"bounds below 0", -9, -5, -3, -5},
		{"between bounds below 0", -4, -5, -3, -4},
		{"above bounds below 0", 0, -5, -3, -3},
		{"low above high, below both", 1, 5, 3, 5},
		{"low above high, high itself", 3, 5, 3, 5},
		{"low above high, between them", 4, 5, 3, 5},
		{"low above high, low itself", 5, 5, 3, 3},
		{"low above high, above both", 6, 5, 3, 3},
		{"all numbers, the lowest", lowest, lowest, greatest, lowest},
		{"all numbers, the greatest", greatest, lowest, greatest, greatest},
		{"all numbers, 0", 0, lowest, greatest, 0},
		{"no numbers, the lowest", lowest, greatest, lowest, greatest},
		{"no numbers, the greatest", greatest, greatest, lowest, lowest},
	} {
		if got := Clamp(c.n, c.low, c.high); got != c.want {
			t.Errorf("%s: Clamp(%d, %d, %d) = %d, want %d", c.name, c.n, c.low, c.high, got, c.want)
		}
	}
}

// P1.1, In.
func TestIn(t *testing.T) {
	for _, c := range []struct {
		name         string
		n, low, high int
		want         bool
	}{
		{"between", 2, 0, 3, true},
		{"low itself", 0, 0, 3, true},
		{"high itself", 3, 0, 3, true},
		{"just below", -1, 0, 3, false},
		{"just above", 4, 0, 3, false},
		{"one number alone", 5, 5, 5, true},
		{"one number alone, below", 4, 5, 5, false},
		{"one number alone, above", 6, 5, 5, false},
		{"bounds below 0", -4, -5, -3, true},
		{"below bounds below 0", -6, -5, -3, false},
		{"above bounds below 0", 0, -5, -3, false},
		{"low above high, below both", 1, 5, 3, false},
		{"low above high, high itself", 3, 5, 3, false},
		{"low above high, between them", 4, 5, 3, false},
		{"low above high, low itself", 5, 5, 3, false},
		{"low above high, above both", 6, 5, 3, false},
		{"all numbers, the lowest", lowest, lowest, greatest, true},
		{"all numbers, the greatest", greatest, lowest, greatest, true},
		{"no numbers", 0, greatest, lowest, false},
	} {
		if got := In(c.n, c.low, c.high); got != c.want {
			t.Errorf("%s: In(%d, %d, %d) = %v, want %v", c.name, c.n, c.low, c.high, got, c.want)
		}
	}
}

func wide(n int) *big.Int { return big.NewInt(int64(n)) }

func notBelow(n, low *big.Int) *big.Int {
	if n.Cmp(low) < 0 {
		return low
	}
	return n
}

func notAbove(n, high *big.Int) *big.Int {
	if n.Cmp(high) > 0 {
		return high
	}
	return n
}

// wideAdd is P1.1's sum in numbers without an end, where nothing wraps round.
func wideAdd(a, b, most int) *big.Int {
	nought := wide(0)
	sum := new(big.Int).Add(notBelow(wide(a), nought), notBelow(wide(b), nought))
	return notBelow(notAbove(sum, wide(most)), nought)
}

// wideLess is P1.1's difference, made the same way.
func wideLess(a, b int) *big.Int {
	d := new(big.Int).Sub(wide(a), wide(b))
	return notAbove(notBelow(d, wide(0)), wide(greatest))
}

// P1.1, held at all edges against numbers that never wrap round.
func TestAgainstWideNumbers(t *testing.T) {
	for _, a := range edges {
		for _, b := range edges {
			if got, want := Less(a, b), wideLess(a, b); wide(got).Cmp(want) != 0 {
				t.Errorf("Less(%d, %d) = %d, want %v", a, b, got, want)
			}
			for _, most := range edges {
				if got, want := Add(a, b, most), wideAdd(a, b, most); wide(got).Cmp(want) != 0 {
					t.Errorf("Add(%d, %d, %d) = %d, want %v", a, b, most, got, want)
				}
			}
		}
	}
}

// P1.2: a sum isn't below its parts, if these aren't above most; and by P1.1 never above most, nor below 0.
func TestSumIsNotBelowItsParts(t *testing.T) {
	for _, a := range edges {
		for _, b := range edges {
			for _, most := range edges {
				got := Add(a, b, most)
				if a <= most && b <= most && (got < a || got < b) {
					t.Errorf("Add(%d, %d, %d) = %d: below a part", a, b, most, got)
				}
				if got < 0 || got > max(most, 0) {
					t.Errorf("Add(%d, %d, %d) = %d: out of bounds", a, b, most, got)
				}
				if other := Add(b, a, most); other != got {
					t.Errorf("Add(%d, %d, %d) = %d, the other way round %d", a, b, most, got, other)
				}
			}
		}
	}
}

// P1.2: a clamped number is between its bounds, if low isn't above high; and one that was between stays.
func TestClampedIsBetween(t *testing.T) {
	for _, n := range edges {
		for _, low := range edges {
			for _, high := range edges {
				got := Clamp(n, low, high)
				if low <= high && (got < low || got > high || !In(got, low, high)) {
					t.Errorf("Clamp(%d, %d, %d) = %d: not between", n, low, high, got)
				}
				if In(n, low, high) != (n >= low && n <= high) {
					t.Errorf("In(%d, %d, %d) is wrong", n, low, high)
				}
				if In(n, low, high) && got != n {
					t.Errorf("Clamp(%d, %d, %d) = %d: was between", n, low, high, got)
				}
			}
		}
	}
}
