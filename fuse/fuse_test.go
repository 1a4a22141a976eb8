package fuse

import (
	"fmt"
	"math"
	"testing"
)

// spend calls n times and tells how many calls were borne, and whether all of those stood ahead of all others.
func spend(f *Fuse, n int) (borne int, ahead bool) {
	ahead = true
	for i := range n {
		if f.Spend() {
			ahead = ahead && borne == i
			borne++
		}
	}
	return borne, ahead
}

// look complains if a fuse isn't as it should be. Asking is done twice, as it may change nothing.
func look(t *testing.T, f *Fuse, what string, blown bool, count int) {
	t.Helper()
	for range 2 {
		if f.Blown() != blown || f.Count() != count {
			t.Errorf("%s: blown %t, %d borne; want %t, %d", what, f.Blown(), f.Count(), blown, count)
		}
	}
}

// calls complains unless of n calls just the first want are borne.
func calls(t *testing.T, f *Fuse, what string, n, want int) {
	t.Helper()
	if borne, ahead := spend(f, n); borne != want || !ahead {
		t.Errorf("%s: of %d calls %d were borne, the first ones: %t; want %d", what, n, borne, ahead, want)
	}
}

// The document's examples.
func TestExamples(t *testing.T) {
	f := New()
	f.Arm(1)
	for i, want := range []bool{true, false, false} {
		if f.Spend() != want {
			t.Errorf("call %d isn't %t", i, want)
		}
	}
	f.Reset()
	if !f.Spend() {
		t.Error("reset, it doesn't bear a call")
	}
}

// P4.1, New: any calls are borne.
func TestNew(t *testing.T) {
	f := New()
	look(t, f, "new", false, 0)
	for i := range 1000 {
		if !f.Spend() {
			t.Fatalf("call %d isn't borne", i)
		}
		look(t, f, "behind a call", false, i+1)
	}
	calls(t, f, "many", 1<<20, 1<<20)
	look(t, f, "behind many", false, 1000+1<<20)
}

// P4.1, New: each is one of its own.
func TestNewIsAnother(t *testing.T) {
	one, two := New(), New()
	one.Arm(0)
	one.Spend()
	look(t, one, "the blown one", true, 0)
	look(t, two, "the other", false, 0)
	calls(t, two, "the other", 3, 3)
	look(t, one, "the blown one", true, 0)
	if three := New(); three.Blown() || three.Count() != 0 || !three.Spend() {
		t.Error("a later one")
	}
}

// P4.1, P4.2, Arm: with a few numbers, from each state that a fuse may be in.
func TestArm(t *testing.T) {
	for _, c := range []struct{ n, bears int }{
		{math.MinInt, 0}, {math.MinInt + 1, 0}, {math.MinInt32, 0}, {-1000, 0}, {-2, 0}, {-1, 0},
		{0, 0}, {1, 1}, {2, 2}, {3, 3}, {10, 10}, {1000, 1000},
	} {
		for name, ahead := range map[string]func(f *Fuse){
			"new":              func(f *Fuse) {},
			"used":             func(f *Fuse) { spend(f, 4) },
			"armed":            func(f *Fuse) { f.Arm(7) },
			"armed, some left": func(f *Fuse) { f.Arm(7); spend(f, 3) },
			"armed, none left": func(f *Fuse) { f.Arm(3); spend(f, 3) },
			"blown":            func(f *Fuse) { f.Arm(3); spend(f, 5) },
			"reset":            func(f *Fuse) { f.Arm(3); spend(f, 5); f.Reset(); spend(f, 1) },
		} {
			f := New()
			ahead(f)
			before := f.Count()
			what := fmt.Sprintf("%s, Arm(%d)", name, c.n)
			f.Arm(c.n)
			look(t, f, what, false, before)
			calls(t, f, what, c.bears, c.bears)
			look(t, f, what+", spent", false, before+c.bears)
			calls(t, f, what+", spent", 1, 0)
			look(t, f, what+", one more", true, before+c.bears)
			calls(t, f, what+", one more", 20, 0)
			look(t, f, what+", many more", true, before+c.bears)
		}
	}
}

// P4.1, Arm: with numbers that no one spends.
func TestArmWithTheGreatest(t *testing.T) {
	for _, n := range []int{math.MaxInt, math.MaxInt - 1, math.MaxInt32, math.MaxInt32 + 1, 1 << 32} {
		f := New()
		f.Arm(n)
		look(t, f, "armed", false, 0)
		calls(t, f, "armed", 5000, 5000)
		look(t, f, "armed, used", false, 5000)
		f.Arm(n)
		calls(t, f, "armed anew", 5000, 5000)
		f.Arm(1)
		calls(t, f, "armed with fewer", 5, 1)
		look(t, f, "armed with fewer", true, 10001)
	}
}

// P4.1, Arm: what it bore before is not put to it, nor does it stay where there was more.
func TestArmIsNotPutTogether(t *testing.T) {
	f := New()
	f.Arm(5)
	f.Arm(2)
	calls(t, f, "5, then 2", 9, 2)
	f.Arm(2)
	f.Arm(5)
	calls(t, f, "2, then 5", 9, 5)
	f.Arm(5)
	f.Arm(-5)
	calls(t, f, "5, then -5", 9, 0)
	look(t, f, "5, then -5", true, 7)
}

// P4.1, Spend: a fuse is blown by the call that isn't borne, not by the last one that is.
func TestBlownByACall(t *testing.T) {
	f := New()
	f.Arm(1)
	look(t, f, "armed", false, 0)
	f.Spend()
	look(t, f, "none left", false, 1)
	f.Spend()
	look(t, f, "one too many", true, 1)
	f.Arm(0)
	look(t, f, "armed with 0", false, 1)
	f.Spend()
	look(t, f, "one too many again", true, 1)
}

// P4.1, Reset: from each state that a fuse may be in, any calls are borne again.
func TestReset(t *testing.T) {
	for name, ahead := range map[string]func(f *Fuse){
		"new":              func(f *Fuse) {},
		"used":             func(f *Fuse) { spend(f, 4) },
		"armed":            func(f *Fuse) { f.Arm(3) },
		"armed with 0":     func(f *Fuse) { f.Arm(0) },
		"armed below 0":    func(f *Fuse) { f.Arm(math.MinInt) },
		"armed, some left": func(f *Fuse) { f.Arm(3); spend(f, 2) },
		"armed, none left": func(f *Fuse) { f.Arm(3); spend(f, 3) },
		"blown":            func(f *Fuse) { f.Arm(3); spend(f, 9) },
		"reset":            func(f *Fuse) { f.Arm(0); f.Spend(); f.Reset() },
	} {
		f := New()
		ahead(f)
		before := f.Count()
		f.Reset()
		look(t, f, name, false, before)
		calls(t, f, name, 100, 100)
		look(t, f, name+", used", false, before+100)
	}
}

// P4.1, Count: of the calls that are borne, whatever is armed or reset between.
func TestCount(t *testing.T) {
	f := New()
	count := 0
	for _, c := range []struct {
		name        string
		first       func()
		made, borne int
		blown       bool
	}{
		{"new", func() {}, 3, 3, false},
		{"armed", func() { f.Arm(4) }, 3, 3, false},
		{"its last", func() {}, 1, 1, false},
		{"too many", func() {}, 5, 0, true},
		{"armed anew", func() { f.Arm(2) }, 6, 2, true},
		{"reset", func() { f.Reset() }, 7, 7, false},
		{"reset again", func() { f.Reset() }, 1, 1, false},
		{"armed with 0", func() { f.Arm(0) }, 2, 0, true},
		{"below 0", func() { f.Arm(-9) }, 2, 0, true},
		{"the least", func() { f.Arm(math.MinInt) }, 2, 0, true},
		{"the greatest", func() { f.Arm(math.MaxInt) }, 8, 8, false},
		{"armed with 1", func() { f.Arm(1) }, 0, 0, false},
		{"reset before it is blown", func() { f.Reset() }, 4, 4, false},
	} {
		c.first()
		look(t, f, c.name+", no call yet", false, count)
		calls(t, f, c.name, c.made, c.borne)
		count += c.borne
		look(t, f, c.name, c.blown, count)
	}
	if count != 29 {
		t.Errorf("%d in all", count)
	}
}

// asWords is a fuse as the chapter's words tell it: bears is below 0 while any calls are borne.
type asWords struct {
	bears, count int
	blown        bool
}

func (w *asWords) spend() bool {
	if w.blown || w.bears == 0 {
		w.blown = true
		return false
	}
	w.count++
	if w.bears > 0 {
		w.bears--
	}
	return true
}

// P4.1, P4.2: all ways to call seven times, held against the words.
func TestAllShortWays(t *testing.T) {
	const kinds, length = 6, 7
	all := 1
	for range length {
		all *= kinds
	}
	for way := range all {
		f, w := New(), &asWords{bears: -1}
		for rest, i := way, 0; i < length; rest, i = rest/kinds, i+1 {
			switch kind := rest % kinds; kind {
			case 0:
				f.Reset()
				w.bears, w.blown = -1, false
			case 1, 2, 3, 4:
				n := kind - 2
				f.Arm(n)
				w.bears, w.blown = max(n, 0), false
			default:
				if f.Spend() != w.spend() {
					t.Fatalf("way %d: call %d", way, i)
				}
			}
			if f.Blown() != w.blown || f.Count() != w.count {
				t.Fatalf("way %d, call %d: blown %t, %d borne; want %t, %d", way, i, f.Blown(), f.Count(), w.blown, w.count)
			}
		}
	}
}

// P4.2: armed with n, just n calls are borne, and none behind them, till it is armed or reset.
func TestJustAsManyAsArmed(t *testing.T) {
	for n := range 200 {
		f := New()
		f.Arm(n)
		calls(t, f, "armed", 2*n+50, n)
		f.Arm(n)
		calls(t, f, "armed anew", 2*n+50, n)
		look(t, f, "armed anew", true, 2*n)
		f.Reset()
		calls(t, f, "reset", 2*n+50, 2*n+50)
		look(t, f, "reset", false, 4*n+50)
	}
}
