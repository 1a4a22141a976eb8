package fault

import (
	"errors"
	"fmt"
	"io"
	"math"
	"slices"
	"strings"
	"testing"

	"switchback/api"
)

// numbers are all of package api's but OK, and some that it doesn't name.
var numbers = []api.Errno{
	api.ErrRange, api.ErrHalt, api.ErrFull, api.ErrForm, api.ErrLong, api.ErrKind, api.ErrPhase,
	api.ErrTwice, api.ErrOver, api.ErrRouter, api.ErrStale, api.ErrNone, api.ErrRev, api.ErrOrder,
	15, 99, 1 << 30, math.MaxInt, -1, -2, math.MinInt,
}

// all are those numbers, and OK.
var all = append([]api.Errno{api.OK}, numbers...)

// listed can't be compared by ==.
type listed []string

func (l listed) Error() string { return "listed" }

// hollow is handed in as a nil pointer, which isn't a nil error; each of its methods panics then.
type hollow struct{ in error }

func (h *hollow) Error() string { return h.in.Error() }
func (h *hollow) Unwrap() error { return h.in }

// ring wraps itself: whoever unwraps it comes to no end.
type ring struct{}

func (r ring) Error() string { return "ring" }
func (r ring) Unwrap() error { return r }

// elsewhere are errors that neither New nor Wrap made, some of which wrap one that did.
func elsewhere() []error {
	return []error{
		errors.New("x"),
		io.EOF,
		listed{"a", "b"},
		(*hollow)(nil),
		ring{},
		fmt.Errorf("f: %w", errors.New("x")),
		fmt.Errorf("f: %w", New(api.ErrFull, "log")),
		fmt.Errorf("f: %w", Wrap(New(api.ErrFull, "log"), "deploy")),
		fmt.Errorf("f: %w", Wrap(io.EOF, "log")),
		errors.Join(New(api.ErrFull, "log")),
		errors.Join(New(api.ErrFull, "log"), New(api.ErrRouter, "call")),
		&hollow{New(api.ErrFull, "log")},
	}
}

// check holds all that is told of an error against what is to be told of it.
func check(t *testing.T, name string, err error, e api.Errno, places ...string) {
	t.Helper()
	if got := Code(err); got != e {
		t.Errorf("%s: Code is %d, want %d", name, got, e)
	}
	for _, other := range all {
		if got := Is(err, other); got != (other == e) {
			t.Errorf("%s: Is(%d) is %v, its number is %d", name, other, got, e)
		}
	}
	if got := Places(err); !slices.Equal(got, places) {
		t.Errorf("%s: Places is %q, want %q", name, got, places)
	}
}

// The document's example.
func TestExample(t *testing.T) {
	err := Wrap(New(api.ErrFull, "log"), "deploy")
	check(t, "the example", err, api.ErrFull, "deploy", "log")
}

// P2.1, P2.2: New.
func TestNew(t *testing.T) {
	for _, where := range []string{"log", "", "a: b", "\x00\xff", strings.Repeat("far ", 1000)} {
		for _, e := range numbers {
			err := New(e, where)
			if err == nil {
				t.Fatalf("New(%d, %q) is nil", e, where)
			}
			check(t, fmt.Sprintf("New(%d)", e), err, e, where)
		}
		if err := New(api.OK, where); err != nil {
			t.Errorf("New(OK, %q) is %v, want nil", where, err)
		}
	}
}

// P2.1, P2.2: nil, handed to each.
func TestNil(t *testing.T) {
	check(t, "nil", nil, api.OK)
	check(t, "New(OK)", New(api.OK, "log"), api.OK)
	if Wrap(nil, "deploy") != nil || Wrap(Wrap(nil, "log"), "deploy") != nil || Wrap(New(api.OK, "log"), "deploy") != nil {
		t.Error("nil, wrapped, isn't nil")
	}
	if !Is(nil, api.OK) || Is(nil, api.ErrKind) || Is(New(api.ErrFull, "log"), api.OK) {
		t.Error("nil alone is OK")
	}
}

// P2.1, P2.2: Wrap.
func TestWrap(t *testing.T) {
	for _, e := range numbers {
		first := New(e, "log")
		second := Wrap(first, "deploy")
		third := Wrap(second, "")
		other := Wrap(first, "abort")
		check(t, "wrapped once", second, e, "deploy", "log")
		check(t, "wrapped twice", third, e, "", "deploy", "log")
		check(t, "wrapped another way", other, e, "abort", "log")
		check(t, "wrapped at the same place", Wrap(second, "deploy"), e, "deploy", "deploy", "log")
		check(t, "what was wrapped", first, e, "log")
	}
}

// P2.1, P2.2: errors that neither New nor Wrap made, bare and wrapped.
func TestElsewhere(t *testing.T) {
	for i, err := range elsewhere() {
		name := fmt.Sprintf("%d, a %T", i, err)
		check(t, name, err, api.ErrKind)
		once := Wrap(err, "log")
		check(t, name+", wrapped", once, api.ErrKind, "log")
		check(t, name+", wrapped twice", Wrap(once, "deploy"), api.ErrKind, "deploy", "log")
	}
}

// The chapter's Ways: what was wrapped is found by errors.Is and errors.As.
func TestWrappedIsFound(t *testing.T) {
	first := New(api.ErrFull, "log")
	second := Wrap(first, "deploy")
	third := Wrap(second, "world")
	if !errors.Is(third, first) || !errors.Is(third, second) || errors.Is(first, second) || errors.Is(third, New(api.ErrFull, "log")) {
		t.Error("errors.Is finds another one than was wrapped")
	}
	far := Wrap(Wrap(fmt.Errorf("f: %w", io.EOF), "log"), "deploy")
	if !errors.Is(far, io.EOF) || errors.Is(far, io.ErrUnexpectedEOF) {
		t.Error("errors.Is doesn't find what was made elsewhere")
	}
	var l listed
	if !errors.As(Wrap(Wrap(listed{"a", "b"}, "log"), "deploy"), &l) || len(l) != 2 {
		t.Error("errors.As doesn't find what was made elsewhere")
	}
	if errors.Unwrap(second) != first || errors.Unwrap(first) != nil || errors.Unwrap(Wrap(io.EOF, "log")) != io.EOF {
		t.Error("errors.Unwrap doesn't answer what was wrapped")
	}
}

// P2.2: Join.
func TestJoin(t *testing.T) {
	full := New(api.ErrFull, "log")
	router := Wrap(New(api.ErrRouter, "call"), "route")
	strange := errors.New("x")
	for i, c := range []struct {
		l    []error
		want error
	}{
		{nil, nil},
		{[]error{}, nil},
		{[]error{nil}, nil},
		{[]error{nil, nil, nil}, nil},
		{[]error{New(api.OK, "log"), Wrap(nil, "deploy")}, nil},
		{[]error{full}, full},
		{[]error{full, router}, full},
		{[]error{router, full}, router},
		{[]error{nil, router, full}, router},
		{[]error{nil, nil, full, nil, router}, full},
		{[]error{full, nil}, full},
		{[]error{nil, strange, full}, strange},
		{[]error{full, full}, full},
	} {
		before := slices.Clone(c.l)
		got := Join(c.l...)
		if got != c.want {
			t.Errorf("%d: Join is %v, want %v", i, got, c.want)
		}
		if !slices.Equal(c.l, before) {
			t.Errorf("%d: Join changed its list", i)
		}
	}
	check(t, "Join of a wrapped one and another", Join(nil, router, full), api.ErrRouter, "route", "call")
	check(t, "Join of a strange one and another", Join(nil, strange, full), api.ErrKind)
	check(t, "Join of nils", Join(nil, nil), api.OK)
	check(t, "Join, wrapped", Wrap(Join(nil, full, router), "deploy"), api.ErrFull, "deploy", "log")
	if Join() != nil {
		t.Error("Join of no errors isn't nil")
	}
}

// P2.2: Join answers at once what can't be compared.
func TestJoinOfWhatCannotBeCompared(t *testing.T) {
	got, ok := Join(nil, listed{"a"}, New(api.ErrFull, "log")).(listed)
	if !ok || len(got) != 1 || got[0] != "a" {
		t.Errorf("Join is %v", got)
	}
}

// P2.3: however often an error is wrapped, its number stays; and each place is told, the furthest first.
func TestWrappedManyTimes(t *testing.T) {
	const often = 100000
	for _, first := range []error{New(api.ErrRouter, "call"), New(-7, "call"), Wrap(io.EOF, "call")} {
		e := Code(first)
		err := first
		for i := range often {
			err = Wrap(err, fmt.Sprint(i))
			if i < 100 && Code(err) != e {
				t.Fatalf("wrapped %d times: %d, want %d", i+1, Code(err), e)
			}
		}
		if Code(err) != e || !Is(err, e) || Is(err, e+1) || Is(err, api.OK) {
			t.Errorf("wrapped %d times: %d, want %d", often, Code(err), e)
		}
		l := Places(err)
		if len(l) != often+1 || l[0] != fmt.Sprint(often-1) || l[often-1] != "0" || l[often] != "call" {
			t.Fatalf("wrapped %d times: %d places", often, len(l))
		}
		if s := err.Error(); !strings.HasPrefix(s, "99999: 99998: ") || strings.Count(s, "call") != 1 {
			t.Errorf("wrapped %d times, its text begins %.40q", often, s)
		}
	}
}

// Rule 5: what is answered is new memory.
func TestPlacesAreNew(t *testing.T) {
	err := Wrap(Wrap(New(api.ErrFull, "log"), "deploy"), "world")
	l := Places(err)
	for i := range l {
		l[i] = "changed"
	}
	_ = append(l[:0], "changed")
	check(t, "its places changed", err, api.ErrFull, "world", "deploy", "log")
}

// The text is for people: the document asks for none.
func TestText(t *testing.T) {
	for _, c := range []struct {
		err  error
		want string
	}{
		{New(api.ErrFull, "log"), "log: error 3"},
		{Wrap(New(api.ErrFull, "log"), "deploy"), "deploy: log: error 3"},
		{Wrap(Wrap(New(-1, "log"), "deploy"), "world"), "world: deploy: log: error -1"},
		{Wrap(io.EOF, "log"), "log: EOF"},
		{Wrap(Wrap(io.EOF, "log"), "deploy"), "deploy: log: EOF"},
	} {
		if got := c.err.Error(); got != c.want {
			t.Errorf("%q, want %q", got, c.want)
		}
	}
}
