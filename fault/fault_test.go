package fault_test

import (
	"errors"
	"math"
	"slices"
	"strings"
	"testing"

	"broadside/api"
	"broadside/fault"
)

// wrapper is an error of another kind that wraps; a nil one panics when asked.
type wrapper struct{ in error }

func (w *wrapper) Error() string { return "wrapper<" + w.in.Error() + ">" }
func (w *wrapper) Unwrap() error { return w.in }

// rows is an error that can't be compared.
type rows []int

func (r rows) Error() string { return "rows" }

func all() []api.Errno {
	return []api.Errno{api.ErrForm, api.ErrGraph, api.ErrWho, api.ErrWhat, api.ErrEmpty, api.ErrKeep, api.ErrFull, api.ErrLink}
}

// P1.1

func TestNewOfNilIsNil(t *testing.T) {
	for _, op := range []string{"", "net"} {
		for _, at := range []int{-1, 0, 3} {
			if e := fault.New(op, at, nil); e != nil {
				t.Errorf("New(%q, %d, nil) = %v", op, at, e)
			}
		}
	}
}

func TestNewMakesAFaultOfThese(t *testing.T) {
	for _, in := range []error{api.ErrFull, errors.New("other"), fault.New("table", 7, api.ErrFull), api.Errno(0)} {
		e := fault.New("net", 3, in)
		f, ok := e.(*fault.Fault)
		if !ok || f.Op != "net" || f.At != 3 || f.Err != in {
			t.Errorf("New of %v: %#v", in, e)
			continue
		}
		if f.Unwrap() != in || errors.Unwrap(e) != in {
			t.Errorf("Unwrap of %v: %v", e, f.Unwrap())
		}
	}
}

func TestNewMakesAnotherOneEachTime(t *testing.T) {
	if fault.New("net", 3, api.ErrFull) == fault.New("net", 3, api.ErrFull) {
		t.Error("one Fault twice")
	}
}

func TestErrorTells(t *testing.T) {
	other := errors.New("other: thing")
	for _, q := range []struct {
		e    error
		want string
	}{
		{fault.New("table", 7, api.ErrFull), "table 7: full"},
		{fault.New("net", 3, fault.New("table", 7, api.ErrFull)), "net 3: table 7: full"},
		{fault.New("a", 1, fault.New("b", 22, fault.New("c", 333, api.ErrForm))), "a 1: b 22: c 333: form"},
		{fault.New("", 0, api.ErrLink), " 0: link"},
		{fault.New("a b: c", -1, api.ErrWho), "a b: c -1: who"},
		{fault.New("a\xff\x00", 10, api.Errno(99)), "a\xff\x00 10: ?"},
		{fault.New("big", math.MaxInt64, api.ErrWhat), "big 9223372036854775807: what"},
		{fault.New("low", math.MinInt64, api.ErrWhat), "low -9223372036854775808: what"},
		{fault.New("a", 1, other), "a 1: other: thing"},
		{fault.New("a", 1, errors.New("")), "a 1: "},
		{fault.New("a", 1, &wrapper{fault.New("b", 2, api.ErrKeep)}), "a 1: wrapper<b 2: keep>"},
		{fault.New("a", 1, errors.Join(fault.New("b", 2, api.ErrKeep), other)), "a 1: b 2: keep\nother: thing"},
		{fault.New("a", 1, rows{1}), "a 1: rows"},
	} {
		if got := q.e.Error(); got != q.want {
			t.Errorf("Error() = %q, want %q", got, q.want)
		}
	}
}

// P1.2

func TestKindPlaceTrace(t *testing.T) {
	other := errors.New("other")
	for _, q := range []struct {
		e     error
		kind  api.Errno
		place int
		trace []string
	}{
		{nil, 0, -1, nil},
		{api.ErrFull, api.ErrFull, -1, nil},
		{api.Errno(0), 0, -1, nil},
		{api.Errno(99), 99, -1, nil},
		{api.Errno(-4), -4, -1, nil},
		{other, 0, -1, nil},
		{rows{1}, 0, -1, nil},
		{&wrapper{api.ErrWho}, api.ErrWho, -1, nil},
		{&wrapper{other}, 0, -1, nil},
		{fault.New("table", 7, api.ErrFull), api.ErrFull, 7, []string{"table"}},
		{fault.New("net", 3, fault.New("table", 7, api.ErrFull)), api.ErrFull, 3, []string{"net", "table"}},
		{fault.New("", 0, api.ErrLink), api.ErrLink, 0, []string{""}},
		{fault.New("a", -1, other), 0, -1, []string{"a"}},
		{fault.New("a", -5, rows{1}), 0, -5, []string{"a"}},
		{fault.New("a", 1, fault.New("a", 1, fault.New("a", 2, api.ErrForm))), api.ErrForm, 1, []string{"a", "a", "a"}},
		{&wrapper{fault.New("b", 2, api.ErrKeep)}, api.ErrKeep, 2, []string{"b"}},
		{fault.New("a", 1, &wrapper{fault.New("b", 2, &wrapper{api.ErrKeep})}), api.ErrKeep, 1, []string{"a", "b"}},
		{fault.New("a", 1, errors.Join(other, fault.New("b", 2, api.ErrKeep))), api.ErrKeep, 1, []string{"a", "b"}},
		{errors.Join(api.ErrWho, fault.New("b", 2, api.ErrKeep)), api.ErrWho, 2, []string{"b"}},
	} {
		if got := fault.Kind(q.e); got != q.kind {
			t.Errorf("Kind(%v) = %v, want %v", q.e, got, q.kind)
		}
		if got := fault.Place(q.e); got != q.place {
			t.Errorf("Place(%v) = %d, want %d", q.e, got, q.place)
		}
		if got := fault.Trace(q.e); !slices.Equal(got, q.trace) {
			t.Errorf("Trace(%v) = %q, want %q", q.e, got, q.trace)
		}
	}
}

func TestTraceOfNoneIsNil(t *testing.T) {
	for _, e := range []error{nil, api.ErrFull, errors.New("other")} {
		if fault.Trace(e) != nil {
			t.Errorf("Trace(%v) isn't nil", e)
		}
	}
}

// P1.3

func TestIsOfJustThatErrno(t *testing.T) {
	for _, k := range all() {
		one := fault.New("a", 1, k)
		for _, e := range []error{one, fault.New("b", 2, one), fault.New("c", int(k), &wrapper{one})} {
			if fault.Kind(e) != k {
				t.Errorf("Kind(%v) = %v", e, fault.Kind(e))
			}
			for _, j := range append(all(), 0, 9, 99, -1) {
				if errors.Is(e, j) != (j == k) {
					t.Errorf("Is(%v, %v) = %v", e, j, j != k)
				}
			}
		}
	}
	for _, j := range append(all(), 0, 9, -1) {
		if errors.Is(fault.New("a", 1, errors.New("other")), j) {
			t.Errorf("another error is %v", j)
		}
	}
}

func TestIsOfWhatIsWrapped(t *testing.T) {
	in := fault.New("table", 7, api.ErrFull)
	e := fault.New("net", 3, in)
	if !errors.Is(e, in) || !errors.Is(e, e) || errors.Is(in, e) {
		t.Error("Is of Faults")
	}
	if errors.Is(e, fault.New("table", 7, api.ErrFull)) {
		t.Error("another Fault that is alike")
	}
	var f *fault.Fault
	if !errors.As(e, &f) || error(f) != e {
		t.Error("As finds the outermost Fault")
	}
}

// R1: whatever is given, every call ends, and none panics.

func askAll(e error) {
	_ = fault.Kind(e)
	_ = fault.Place(e)
	_ = fault.Trace(e)
	_ = fault.New("a", 1, e).Error()
}

func TestErrorsOfNoWorth(t *testing.T) {
	var none *fault.Fault
	var gone *wrapper
	var number *api.Errno
	for _, e := range []error{none, gone, number, &fault.Fault{}, &wrapper{none}, &wrapper{gone}, errors.Join(none, gone)} {
		askAll(e)
		f := fault.New("a", 1, e)
		if fault.Kind(f) != 0 || fault.Place(f) != 1 || fault.Trace(f)[0] != "a" || errors.Unwrap(f) == nil {
			t.Errorf("a Fault of %T", e)
		}
		if !strings.HasPrefix(f.Error(), "a 1: ") {
			t.Errorf("a Fault of %T says %q", e, f.Error())
		}
	}
	if fault.Place(none) != -1 || fault.Trace(none) != nil || fault.Kind(none) != 0 {
		t.Error("a nil Fault is none")
	}
	if errors.Is(fault.New("a", 1, none), api.ErrFull) || fault.Kind(errors.Join(none, api.ErrFull)) != api.ErrFull {
		t.Error("a nil Fault wraps nothing")
	}
	if got := (&fault.Fault{Op: "a", At: 2}).Error(); got != "a 2: " {
		t.Errorf("a Fault of nil says %q", got)
	}
}

func TestRingsEnd(t *testing.T) {
	for tail := range 9 {
		for ring := 1; ring < 9; ring++ {
			last := &fault.Fault{Op: "last"}
			var e error = last
			for range ring - 1 {
				e = fault.New("ring", 1, e)
			}
			last.Err = e
			for range tail {
				e = fault.New("tail", 2, e)
			}
			askAll(e)
			if fault.Kind(e) != 0 || len(fault.Trace(e)) < tail+ring {
				t.Errorf("a tail of %d, a ring of %d", tail, ring)
			}
		}
	}
	f := &fault.Fault{Op: "a"}
	f.Err = &wrapper{f}
	if fault.Kind(f) != 0 || fault.Place(f) != 0 || fault.Trace(f)[0] != "a" {
		t.Error("a ring through another kind")
	}
}

// R6: 2^16 parts in one another.

func TestDeep(t *testing.T) {
	const deep = 1 << 16
	var e error = api.ErrEmpty
	for i := range deep {
		e = fault.New("op", i%10, e)
	}
	if fault.Kind(e) != api.ErrEmpty || fault.Place(e) != (deep-1)%10 || !errors.Is(e, api.ErrEmpty) {
		t.Error("deep: kind, place")
	}
	ops := fault.Trace(e)
	if len(ops) != deep || slices.ContainsFunc(ops, func(s string) bool { return s != "op" }) {
		t.Error("deep: trace", len(ops))
	}
	s := e.Error()
	if len(s) != deep*len("op 1: ")+len("empty") || !strings.HasSuffix(s, "op 1: op 0: empty") {
		t.Error("deep: error", len(s))
	}
}

// R2: answers are new memory.

func TestTraceIsNew(t *testing.T) {
	e := fault.New("a", 1, fault.New("b", 2, fault.New("c", 3, api.ErrFull)))
	one := fault.Trace(e)
	one = append(one, "x")
	for i := range one {
		one[i] = "changed"
	}
	if !slices.Equal(fault.Trace(e), []string{"a", "b", "c"}) {
		t.Error("Trace changed with an answer")
	}
	if e.Error() != "a 1: b 2: c 3: full" {
		t.Error("Error changed with an answer")
	}
}
