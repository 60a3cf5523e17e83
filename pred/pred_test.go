package pred_test

import (
	"errors"
	"math"
	"slices"
	"strings"
	"testing"

	"broadside/api"
	"broadside/fault"
	"broadside/pred"
	"broadside/value"
)

func span(name string, lo, hi int) api.Constraint {
	return api.Constraint{Name: name, Kind: api.CRange, Lo: lo, Hi: hi}
}

func text(name, s string) api.Constraint {
	return api.Constraint{Name: name, Kind: api.CText, Text: s}
}

func prefix(name, s string) api.Constraint {
	return api.Constraint{Name: name, Kind: api.CPrefix, Text: s}
}

func list(l ...api.Constraint) []api.Constraint { return l }

// right is right constraints of that name, each another one.
func right(name string) []api.Constraint {
	return list(
		span(name, 1, 5), span(name, 3, 9), span(name, 5, 5), span(name, 5, 6), span(name, 6, 7), span(name, 0, 0),
		span(name, -4, 0), span(name, -9, -2), span(name, math.MinInt64, math.MaxInt64),
		span(name, math.MinInt64, math.MinInt64), span(name, math.MaxInt64, math.MaxInt64),
		span(name, math.MinInt64, 3), span(name, 3, math.MaxInt64),
		text(name, ""), text(name, "x"), text(name, "xy"), text(name, "y"), text(name, "\x00"), text(name, "\xff"),
		text(name, "abcdefghijkl"), text(name, "abcdefghijkm"),
		prefix(name, ""), prefix(name, "x"), prefix(name, "xy"), prefix(name, "xyz"), prefix(name, "y"), prefix(name, "\xff"),
		prefix(name, "abcdefghijk"), prefix(name, "abcdefghij"),
	)
}

// wrong is constraints that aren't right, each by one fault.
func wrong() []api.Constraint {
	var none []api.Constraint
	for _, name := range []string{"", "A", "a1", "a ", "ä", "\x00", "abcdefghijklm"} {
		none = append(none, span(name, 1, 2), text(name, "x"), prefix(name, "x"))
	}
	for _, kind := range []int{0, 4, 5, 9, -1, 257, math.MinInt64, math.MaxInt64} {
		none = append(none, api.Constraint{Name: "a", Kind: kind})
	}
	return append(none,
		span("a", 2, 1), span("a", 0, -1), span("a", math.MaxInt64, math.MinInt64), span("a", math.MinInt64+1, math.MinInt64),
		api.Constraint{Name: "a", Kind: api.CRange, Lo: 1, Hi: 2, Text: "x"},
		api.Constraint{Name: "a", Kind: api.CRange, Text: "\x00"},
		api.Constraint{Name: "a", Kind: api.CText, Lo: 1, Text: "x"},
		api.Constraint{Name: "a", Kind: api.CText, Hi: 1, Text: "x"},
		api.Constraint{Name: "a", Kind: api.CText, Lo: 1, Hi: 1, Text: "x"},
		api.Constraint{Name: "a", Kind: api.CPrefix, Lo: -1, Text: "x"},
		api.Constraint{Name: "a", Kind: api.CPrefix, Hi: -1, Text: "x"},
		text("a", "abcdefghijklm"), text("a", strings.Repeat("a", 1<<16)),
		prefix("a", "abcdefghijkl"), prefix("a", "abcdefghijklm"), prefix("a", strings.Repeat("a", 1<<16)),
	)
}

// values is right values at and beside the edges of right's constraints.
func values() []api.Value {
	var l []api.Value
	for _, n := range []int{math.MinInt64, math.MinInt64 + 1, -10, -9, -5, -4, -3, -2, -1, 0, 1, 2, 3, 4, 5, 6, 7, 8, 9, 10, math.MaxInt64 - 1, math.MaxInt64} {
		l = append(l, value.Number(n))
	}
	for _, s := range []string{"", "x", "xy", "xyz", "xyzz", "xx", "y", "yx", "z", "X", "5", "\x00", "\xff", "\xffa", "abcdefghij", "abcdefghijk", "abcdefghijkl", "abcdefghijkm", "abcdefghijx"} {
		l = append(l, value.Text(s))
	}
	return l
}

// P4.1

func TestRightOne(t *testing.T) {
	for _, name := range []string{"a", "z", "ab", "abcdefghijkl"} {
		for _, c := range right(name) {
			if !pred.RightOne(c) {
				t.Errorf("%#v isn't right", c)
			}
		}
	}
	for _, c := range wrong() {
		if pred.RightOne(c) {
			t.Errorf("%.200s of kind %d is right", pred.Say(list(c)), c.Kind)
		}
	}
	if pred.RightOne(api.Constraint{}) {
		t.Error("the zero constraint is right")
	}
}

func TestRightOneCountsBytes(t *testing.T) {
	for n := range 3 * api.MaxName {
		for _, one := range []string{"a", "\x00", "\xff"} {
			s := strings.Repeat(one, n)
			if pred.RightOne(text("a", s)) != (n <= 12) {
				t.Errorf("a text of %d bytes", n)
			}
			if pred.RightOne(prefix("a", s)) != (n <= 11) {
				t.Errorf("a prefix of %d bytes", n)
			}
		}
	}
	if !pred.RightOne(text("a", "éééééé")) || pred.RightOne(text("a", "ééééééé")) || pred.RightOne(prefix("a", "éééééé")) {
		t.Error("letters of two bytes")
	}
}

// sixNames is right constraints of six names that rise.
func sixNames() []api.Constraint {
	return list(span("a", 1, 2), text("b", "x"), prefix("ba", ""), span("c", 0, 0), text("d", ""), prefix("zz", "y"))
}

func TestRight(t *testing.T) {
	for i, l := range [][]api.Constraint{
		nil, {}, list(span("a", 1, 2)), list(span("a", 1, 2), prefix("b", "")), list(text("a", "x"), text("aa", "x")),
		list(text("y", "x"), text("z", "x"), text("za", "x")), sixNames()[:4], sixNames()[:5], sixNames()[1:],
	} {
		if !pred.Right(l) {
			t.Errorf("list %d, %q, isn't right", i, pred.Say(l))
		}
	}
	for i, l := range [][]api.Constraint{
		sixNames(), make([]api.Constraint, 1), make([]api.Constraint, 6), make([]api.Constraint, 1<<16),
		list(span("a", 1, 2), span("a", 1, 2)), list(span("a", 1, 2), span("a", 3, 4)), list(span("a", 1, 2), text("a", "x")),
		list(span("b", 1, 2), span("a", 1, 2)), list(span("aa", 1, 2), span("a", 1, 2)),
		list(span("a", 1, 2), span("c", 1, 2), span("b", 1, 2)), list(span("b", 1, 2), span("c", 1, 2), span("a", 1, 2)),
		list(span("a", 1, 2), span("b", 1, 2), span("c", 1, 2), span("c", 1, 2)),
		list(span("a", 1, 2), span("b", 1, 2), span("c", 1, 2), span("e", 1, 2), span("d", 1, 2)),
	} {
		if pred.Right(l) {
			t.Errorf("wrong list %d, %.200q, is right", i, pred.Say(l))
		}
	}
}

func TestRightAsksEachOne(t *testing.T) {
	for _, c := range wrong() {
		if c.Name == "a" {
			c.Name = "m"
		}
		for _, l := range [][]api.Constraint{list(c), list(span("b", 1, 2), c), list(c, span("z", 1, 2)), list(span("b", 1, 2), c, span("z", 1, 2))} {
			if pred.Right(l) {
				t.Errorf("%.200q is right", pred.Say(l))
			}
		}
	}
}

// R5: what stands in the room behind a list's length isn't read.
func TestRightReadsNoSpareRoom(t *testing.T) {
	if six := sixNames(); !pred.Right(six[:5]) || !pred.Right(six[:0]) {
		t.Error("the spare room is counted")
	}
	l := list(span("a", 1, 2), span("b", 1, 2), span("a", 2, 1))
	if !pred.Right(l[:2]) || pred.Right(l) {
		t.Error("the spare room is asked")
	}
}

// P4.2

func TestBoth(t *testing.T) {
	for _, q := range []struct{ a, b, want api.Constraint }{
		{span("a", 1, 5), span("a", 3, 9), span("a", 3, 5)},
		{span("a", 1, 5), span("a", 5, 9), span("a", 5, 5)},
		{span("a", 1, 9), span("a", 3, 5), span("a", 3, 5)},
		{span("a", 1, 5), span("a", 1, 5), span("a", 1, 5)},
		{span("a", -9, -2), span("a", -4, 0), span("a", -4, -2)},
		{span("a", math.MinInt64, 3), span("a", 3, math.MaxInt64), span("a", 3, 3)},
		{span("a", math.MinInt64, math.MaxInt64), span("a", 0, 0), span("a", 0, 0)},
		{span("a", math.MinInt64, math.MinInt64), span("a", math.MinInt64, 0), span("a", math.MinInt64, math.MinInt64)},
		{text("a", "x"), text("a", "x"), text("a", "x")},
		{text("a", ""), text("a", ""), text("a", "")},
		{text("a", "xy"), prefix("a", "x"), text("a", "xy")},
		{text("a", "xy"), prefix("a", "xy"), text("a", "xy")},
		{text("a", ""), prefix("a", ""), text("a", "")},
		{text("a", "abcdefghijkl"), prefix("a", "abcdefghijk"), text("a", "abcdefghijkl")},
		{prefix("a", "x"), prefix("a", "xyz"), prefix("a", "xyz")},
		{prefix("a", "x"), prefix("a", ""), prefix("a", "x")},
		{prefix("a", "x"), prefix("a", "x"), prefix("a", "x")},
		{prefix("long", "\xff"), prefix("long", "\xffa"), prefix("long", "\xffa")},
	} {
		if got, ok := pred.Both(q.a, q.b); !ok || got != q.want {
			t.Errorf("Both(%v, %v) = %v, %v", q.a, q.b, got, ok)
		}
		if got, ok := pred.Both(q.b, q.a); !ok || got != q.want {
			t.Errorf("Both(%v, %v) = %v, %v", q.b, q.a, got, ok)
		}
	}
}

func TestBothOfNone(t *testing.T) {
	for _, q := range [][2]api.Constraint{
		{span("a", 1, 2), text("a", "x")}, {span("a", 0, 0), text("a", "")}, {span("a", 1, 2), prefix("a", "x")},
		{span("a", math.MinInt64, math.MaxInt64), prefix("a", "")}, {span("a", 0, 0), prefix("a", "")},
		{span("a", 1, 2), span("a", 3, 4)}, {span("a", 1, 2), span("a", 5, 6)}, {span("a", 0, 0), span("a", -1, -1)},
		{span("a", math.MinInt64, math.MinInt64), span("a", math.MaxInt64, math.MaxInt64)},
		{text("a", "x"), text("a", "y")}, {text("a", "x"), text("a", "xy")}, {text("a", ""), text("a", "x")}, {text("a", "x"), text("a", "X")},
		{text("a", "x"), prefix("a", "xy")}, {text("a", ""), prefix("a", "x")}, {text("a", "yx"), prefix("a", "x")},
		{prefix("a", "x"), prefix("a", "y")}, {prefix("a", "xy"), prefix("a", "xz")}, {prefix("a", "xy"), prefix("a", "y")},
	} {
		if got, ok := pred.Both(q[0], q[1]); ok {
			t.Errorf("Both(%v, %v) = %v", q[0], q[1], got)
		}
		if got, ok := pred.Both(q[1], q[0]); ok {
			t.Errorf("Both(%v, %v) = %v", q[1], q[0], got)
		}
	}
}

// Both holds just where both do, of each pair and value.
func TestBothHoldsWhereBothDo(t *testing.T) {
	for _, a := range right("name") {
		for _, b := range right("name") {
			both, ok := pred.Both(a, b)
			some := false
			for _, v := range values() {
				want := pred.Holds(a, v) && pred.Holds(b, v)
				some = some || want
				if ok && pred.Holds(both, v) != want {
					t.Errorf("Both(%v, %v) = %v: of %s", a, b, both, value.Say(v))
				}
			}
			if ok != some || ok && (!pred.RightOne(both) || both.Name != "name") {
				t.Errorf("Both(%v, %v) = %v, %v", a, b, both, ok)
			}
			if turned, too := pred.Both(b, a); too != ok || ok && turned != both {
				t.Errorf("Both(%v, %v) = %v, %v", b, a, turned, too)
			}
		}
	}
}

func TestMake(t *testing.T) {
	for _, q := range []struct {
		l    []api.Constraint
		want string
	}{
		{nil, ``},
		{[]api.Constraint{}, ``},
		{list(span("a", 1, 5)), `a:1..5`},
		{list(span("a", 1, 5), span("a", 3, 9)), `a:3..5`},
		{list(span("a", 1, 5), span("a", 3, 9), span("a", 5, 7), span("a", 0, 5)), `a:5..5`},
		{list(prefix("b", "x"), text("b", "xy")), `b="xy"`},
		{list(text("b", "xy"), prefix("b", "x")), `b="xy"`},
		{list(prefix("b", "xy"), prefix("b", "x"), prefix("b", "")), `b^"xy"`},
		{list(span("b", 1, 2), span("a", 3, 4)), `a:3..4,b:1..2`},
		{list(span("aa", 1, 2), span("b", 5, 6), span("a", 3, 4)), `a:3..4,aa:1..2,b:5..6`},
		{list(span("c", -1, 1), text("a", `"`), prefix("b", "")), `a="\"",b^"",c:-1..1`},
		{list(span("a", 1, 9), text("b", "x"), span("a", 2, 8), prefix("b", ""), span("a", 0, 7)), `a:2..7,b="x"`},
		{list(span("e", 1, 1), span("d", 1, 1), span("c", 1, 1), span("b", 1, 1), span("a", 1, 1), span("c", 0, 9), span("a", 1, 2)), `a:1..1,b:1..1,c:1..1,d:1..1,e:1..1`},
		{append(sixNames()[:5:5], sixNames()[:5]...), `a:1..2,b="x",ba^"",c:0..0,d=""`},
	} {
		got, err := pred.Make(q.l...)
		if err != nil || pred.Say(got) != q.want || !pred.Right(got) {
			t.Errorf("Make of %q: %q, %v", pred.Say(q.l), pred.Say(got), err)
		}
		again, err := pred.Make(got...)
		if err != nil || !pred.Same(again, got) {
			t.Errorf("Make of Make of %q: %q, %v", pred.Say(q.l), pred.Say(again), err)
		}
	}
}

// refused asks for no list beside a Fault of op pred, that place and Errno.
func refused(t *testing.T, l []api.Constraint, want api.Errno, at int) {
	t.Helper()
	got, err := pred.Make(l...)
	var f *fault.Fault
	if !errors.As(err, &f) {
		t.Errorf("Make of %.200q: %v", pred.Say(l), err)
		return
	}
	if got != nil || f.Op != "pred" || f.At != at || f.Err != want || !errors.Is(err, want) {
		t.Errorf("Make of %.200q: %v, %v; want %v at %d", pred.Say(l), got, err, want, at)
	}
	if fault.Kind(err) != want || fault.Place(err) != at || !slices.Equal(fault.Trace(err), []string{"pred"}) {
		t.Errorf("Make of %.200q: %v; want %v at %d", pred.Say(l), err, want, at)
	}
}

func TestMakeRefusesWrongOnes(t *testing.T) {
	for _, c := range wrong() {
		refused(t, list(c), api.ErrForm, 0)
		refused(t, list(c, c), api.ErrForm, 0)
		refused(t, list(text("z", "x"), c, span("y", 1, 2), c), api.ErrForm, 1)
	}
	bad := span("a", 2, 1)
	refused(t, list(bad, span("a", 1, 2), span("a", 5, 6)), api.ErrForm, 0)
	refused(t, list(span("a", 1, 2), span("a", 5, 6), bad), api.ErrForm, 2)
	refused(t, append(sixNames(), bad), api.ErrForm, 6)
	refused(t, make([]api.Constraint, 3), api.ErrForm, 0)
}

func TestMakeRefusesEmptyAndFull(t *testing.T) {
	six := sixNames()
	refused(t, list(span("a", 1, 2), span("a", 5, 6)), api.ErrEmpty, 1)
	refused(t, list(span("a", 1, 2), text("a", "x")), api.ErrEmpty, 1)
	refused(t, list(prefix("a", "x"), span("b", 1, 2), prefix("a", "y")), api.ErrEmpty, 2)
	refused(t, list(text("a", "x"), span("b", 1, 2), text("a", "y"), span("b", 5, 6)), api.ErrEmpty, 2)
	refused(t, list(span("a", 1, 6), span("a", 4, 9), span("a", 2, 3), span("a", 7, 8)), api.ErrEmpty, 2)
	refused(t, six, api.ErrFull, 5)
	refused(t, append(slices.Clone(six), span("e", 1, 2)), api.ErrFull, 5)
	refused(t, append(six[:5:5], span("a", 1, 2), text("b", "x"), six[5], six[5]), api.ErrFull, 7)
	refused(t, append(slices.Clone(six), span("a", 5, 6)), api.ErrFull, 5)
	refused(t, append(list(span("a", 5, 6)), six...), api.ErrEmpty, 1)
	refused(t, append(six[:5:5], span("a", 5, 6), six[5]), api.ErrEmpty, 5)
	refused(t, append(six[:5:5], six[5], span("a", 5, 6)), api.ErrFull, 5)
	slices.Reverse(six)
	refused(t, six, api.ErrFull, 5)
}

// A predicate that isn't Make's work: who allows what, value by value.
func allows(l []api.Constraint, a, b api.Value) bool {
	for _, c := range l {
		v := a
		if c.Name == "b" {
			v = b
		}
		if !pred.Holds(c, v) {
			return false
		}
	}
	return true
}

// meaning is the pairs of values for a and b that l allows.
func meaning(l []api.Constraint, of []api.Value) []bool {
	var pairs []bool
	for _, a := range of {
		for _, b := range of {
			pairs = append(pairs, allows(l, a, b))
		}
	}
	return pairs
}

// judge is what Make must say of l, told by what its beginnings mean.
func judge(l []api.Constraint, of []api.Value) (api.Errno, int) {
	for at, c := range l {
		if !pred.RightOne(c) {
			return api.ErrForm, at
		}
	}
	for at := range l {
		if !slices.Contains(meaning(l[:at+1], of), true) {
			return api.ErrEmpty, at
		}
	}
	return 0, -1
}

// All lists of up to three of these.
func TestMakeMeansWhatItIsGiven(t *testing.T) {
	of := []api.Value{value.Number(0), value.Number(1), value.Number(2), value.Text(""), value.Text("x"), value.Text("xy"), value.Text("xz")}
	one := list(span("b", 0, 1), span("a", 0, 1), span("a", 1, 2), span("a", 2, 2), text("a", "x"), text("a", "xy"), prefix("a", ""), prefix("a", "x"), prefix("a", "xz"), prefix("b", "x"), span("a", 1, 0))
	lists := [][]api.Constraint{nil}
	for from := 0; len(lists[from]) < 3; from++ {
		for _, c := range one {
			lists = append(lists, append(slices.Clone(lists[from]), c))
		}
	}
	for _, l := range lists {
		kind, at := judge(l, of)
		if kind != 0 {
			refused(t, l, kind, at)
			continue
		}
		got, err := pred.Make(l...)
		if err != nil || !pred.Right(got) || !slices.Equal(meaning(got, of), meaning(l, of)) {
			t.Errorf("Make of %q: %q, %v", pred.Say(l), pred.Say(got), err)
		}
	}
	if len(lists) != 1+11+121+1331 {
		t.Error(len(lists), "lists")
	}
}

// What goes in in another order comes to the same.
func TestMakeOfEachOrder(t *testing.T) {
	l := list(span("c", 1, 9), span("c", 5, 12), text("a", "xy"), prefix("a", "x"), prefix("b", ""))
	count := 0
	var turn func(n int)
	turn = func(n int) {
		if n == len(l) {
			count++
			if got, err := pred.Make(l...); err != nil || pred.Say(got) != `a="xy",b^"",c:5..9` {
				t.Errorf("Make of %q: %q, %v", pred.Say(l), pred.Say(got), err)
			}
			return
		}
		for i := n; i < len(l); i++ {
			l[n], l[i] = l[i], l[n]
			turn(n + 1)
			l[n], l[i] = l[i], l[n]
		}
	}
	turn(0)
	if count != 120 {
		t.Error(count, "orders")
	}
}

// P4.3

func TestHolds(t *testing.T) {
	for _, c := range right("a") {
		for _, v := range values() {
			want := false
			switch c.Kind {
			case api.CRange:
				want = !v.IsText && v.N >= c.Lo && v.N <= c.Hi
			case api.CText:
				want = v.IsText && v.Text == c.Text
			case api.CPrefix:
				want = v.IsText && len(v.Text) >= len(c.Text) && v.Text[:len(c.Text)] == c.Text
			}
			if pred.Holds(c, v) != want {
				t.Errorf("Holds(%v, %s) = %v", c, value.Say(v), !want)
			}
		}
	}
}

func TestHoldsAtTheEdges(t *testing.T) {
	n, s := value.Number, value.Text
	for _, q := range []struct {
		c    api.Constraint
		v    api.Value
		want bool
	}{
		{span("a", 1, 5), n(0), false}, {span("a", 1, 5), n(1), true}, {span("a", 1, 5), n(5), true}, {span("a", 1, 5), n(6), false},
		{span("a", 0, 0), n(0), true}, {span("a", 0, 0), s(""), false}, {span("a", 5, 5), s("5"), false},
		{span("a", math.MinInt64, math.MaxInt64), n(math.MinInt64), true}, {span("a", math.MinInt64, math.MaxInt64), n(math.MaxInt64), true},
		{text("a", ""), s(""), true}, {text("a", ""), n(0), false}, {text("a", ""), s("x"), false},
		{text("a", "x"), s("x"), true}, {text("a", "x"), s("xy"), false}, {text("a", "xy"), s("x"), false}, {text("a", "x"), s("y"), false}, {text("a", "x"), s(""), false},
		{prefix("a", ""), s(""), true}, {prefix("a", ""), s("x"), true}, {prefix("a", ""), n(0), false},
		{prefix("a", "x"), s("x"), true}, {prefix("a", "x"), s("xy"), true}, {prefix("a", "x"), s("yx"), false}, {prefix("a", "x"), s(""), false},
		{prefix("a", "xy"), s("x"), false}, {prefix("a", "\xff"), s("\xffa"), true},
		{prefix("a", "abcdefghijk"), s("abcdefghijkl"), true}, {prefix("a", "abcdefghijk"), s("abcdefghijk"), true}, {prefix("a", "abcdefghijk"), s("abcdefghij"), false},
	} {
		if pred.Holds(q.c, q.v) != q.want {
			t.Errorf("Holds(%v, %s) = %v", q.c, value.Say(q.v), !q.want)
		}
	}
}

func TestHoldsOfOtherKinds(t *testing.T) {
	for _, kind := range []int{0, 4, 5, 9, -1, 257, math.MinInt64, math.MaxInt64} {
		for _, v := range values() {
			for _, c := range list(api.Constraint{Kind: kind}, api.Constraint{Name: "a", Kind: kind, Lo: math.MinInt64, Hi: math.MaxInt64, Text: v.Text}) {
				if pred.Holds(c, v) {
					t.Errorf("Holds(%v, %s)", c, value.Say(v))
				}
			}
		}
	}
}

// The name isn't asked, nor whether the rest is right.
func TestHoldsOfWrongOnes(t *testing.T) {
	for _, c := range list(span("", 1, 5), text("A", "x"), prefix("a b", "x")) {
		v := value.Text("x")
		if c.Kind == api.CRange {
			v = value.Number(3)
		}
		if !pred.Holds(c, v) {
			t.Errorf("Holds(%v, %s) = false", c, value.Say(v))
		}
	}
	for n := range 8 {
		if pred.Holds(span("a", 5, 2), value.Number(n)) {
			t.Errorf("%d in 5..2", n)
		}
	}
	long := strings.Repeat("a", 1<<16)
	if !pred.Holds(text("a", long), value.Text(long)) || !pred.Holds(prefix("a", long), value.Text(long+"b")) || pred.Holds(prefix("a", long+"b"), value.Text(long)) {
		t.Error("long texts")
	}
}

// P4.4

func TestSay(t *testing.T) {
	for _, q := range []struct {
		l    []api.Constraint
		want string
	}{
		{nil, ``},
		{[]api.Constraint{}, ``},
		{list(span("a", 3, 5)), `a:3..5`},
		{list(span("a", -5, -3)), `a:-5..-3`},
		{list(span("a", math.MinInt64, math.MaxInt64)), `a:-9223372036854775808..9223372036854775807`},
		{list(text("b", "xy")), `b="xy"`},
		{list(text("b", "")), `b=""`},
		{list(prefix("b", "xy")), `b^"xy"`},
		{list(prefix("b", "")), `b^""`},
		{list(text("a", `b"c\`), prefix("d", `",e="`)), `a="b\"c\\",d^"\",e=\""`},
		{list(text("a", "\x00\n\xff"), prefix("b", "é")), "a=\"\x00\n\xff\",b^\"é\""},
		{list(span("a", 1, 5), text("b", "x"), prefix("c", "y")), `a:1..5,b="x",c^"y"`},
		{list(span("b", 1, 2), span("a", 1, 2), span("a", 1, 2)), `b:1..2,a:1..2,a:1..2`},
		{list(span("a", 1, 2), text("b", "x"))[:1], `a:1..2`},
		{list(span("a", 5, 2), span("", 0, 0)), `a:5..2,:0..0`},
		{list(text("A \"", "abcdefghijklm")), `A "="abcdefghijklm"`},
		{list(api.Constraint{Name: "a"}, api.Constraint{Name: "b", Kind: 4, Lo: 1, Hi: 2, Text: "x"}, api.Constraint{}), `a,b,`},
		{list(api.Constraint{Name: "a", Kind: api.CRange, Lo: 1, Hi: 2, Text: "x"}, api.Constraint{Name: "b", Kind: api.CText, Lo: 1, Hi: 2, Text: "x"}), `a:1..2,b="x"`},
	} {
		if got := pred.Say(q.l); got != q.want {
			t.Errorf("Say = %q, want %q", got, q.want)
		}
	}
}

func TestSayTellsRightOnesApart(t *testing.T) {
	all := slices.Concat(right("a"), right("aa"), right("b"))
	for i, c := range all {
		for k, d := range all {
			if (pred.Say(list(c)) == pred.Say(list(d))) != (i == k) {
				t.Errorf("%v and %v", c, d)
			}
			if pred.Same(list(c), list(d)) != (i == k) {
				t.Errorf("Same of %v and %v", c, d)
			}
		}
	}
}

// Each field of each constraint counts.
func TestSameLooksAtEachField(t *testing.T) {
	c := api.Constraint{Name: "a", Kind: api.CRange, Lo: 1, Hi: 2, Text: "x"}
	all := list(c, c, c, c, c, c)
	all[1].Name, all[2].Kind, all[3].Lo, all[4].Hi, all[5].Text = "b", 9, 0, 3, ""
	for i, a := range all {
		for k, b := range all {
			for _, more := range [][]api.Constraint{nil, list(c), list(c, c)} {
				if pred.Same(append(slices.Clone(more), a), append(slices.Clone(more), b)) != (i == k) {
					t.Errorf("Same of %v and %v", a, b)
				}
			}
		}
	}
}

func TestSameOfLengths(t *testing.T) {
	l := list(span("a", 1, 2), text("b", "x"))
	if !pred.Same(l, slices.Clone(l)) || pred.Same(l, l[:1]) || pred.Same(l[:1], l) || pred.Same(l, list(l[1], l[0])) {
		t.Error("lists of two")
	}
	if !pred.Same(l[:1], list(l[0], prefix("c", ""))[:1]) {
		t.Error("the spare room is read")
	}
	if !pred.Same(nil, nil) || !pred.Same(nil, []api.Constraint{}) || !pred.Same([]api.Constraint{}, nil) {
		t.Error("empty lists")
	}
	if pred.Same(nil, make([]api.Constraint, 1)) || pred.Same(make([]api.Constraint, 1), nil) {
		t.Error("an empty list and one zero constraint")
	}
}

// The chapter's runs.
func TestRuns(t *testing.T) {
	if got, err := pred.Make(span("a", 1, 5), span("a", 3, 9)); err != nil || pred.Say(got) != "a:3..5" {
		t.Error(pred.Say(got), err)
	}
	if got, err := pred.Make(prefix("b", "x"), text("b", "xy")); err != nil || pred.Say(got) != `b="xy"` {
		t.Error(pred.Say(got), err)
	}
	if got, err := pred.Make(span("a", 1, 2), span("a", 5, 6)); got != nil || err == nil || err.Error() != "pred 1: empty" {
		t.Error(pred.Say(got), err)
	}
}

// R2: what is handed in isn't changed, its spare room included.
func TestMakeChangesNothing(t *testing.T) {
	room := list(span("c", 1, 9), span("a", 1, 5), span("c", 3, 7), text("b", "x"), prefix("b", ""), span("d", 1, 2), span("d", 5, 6), prefix("e", "x"), text("f", "x"))
	before := slices.Clone(room)
	for n := range len(room) + 1 {
		pred.Make(room[:n]...)
		if !slices.Equal(room, before) {
			t.Fatalf("Make of %d changed its list: %q", n, pred.Say(room))
		}
	}
}

// R2: an answer is new memory, its spare room too.
func TestMakeIsNew(t *testing.T) {
	room := list(span("a", 1, 5), text("b", "x"), prefix("c", "y"), span("x", 1, 1), span("y", 1, 1), span("z", 1, 1))
	before := slices.Clone(room)
	for n := range 4 {
		one, _ := pred.Make(room[:n]...)
		other, _ := pred.Make(room[:n]...)
		one = one[:cap(one)]
		for i := range one {
			one[i] = text("changed", "changed")
		}
		if !slices.Equal(room, before) || !slices.Equal(other, before[:n]) {
			t.Errorf("an answer of %d shares memory", n)
		}
		room[0] = span("a", 7, 7)
		if !slices.Equal(other, before[:n]) {
			t.Errorf("an answer of %d was kept", n)
		}
		room[0] = before[0]
	}
}

// R1: whatever is given, every call ends, and none panics.

func TestBothOfWhateverEnds(t *testing.T) {
	all := append(wrong(), right("a")...)
	all = append(all, right("b")...)
	all = append(all, api.Constraint{})
	for _, a := range all {
		for _, b := range all {
			pred.Both(a, b)
		}
	}
}

func TestLongLists(t *testing.T) {
	const long = 1 << 16
	l := make([]api.Constraint, 0, long+1)
	for i := range long {
		l = append(l, span("b", -i, long))
	}
	if got, err := pred.Make(l...); err != nil || pred.Say(got) != "b:0..65536" {
		t.Error("Make:", pred.Say(got), err)
	}
	refused(t, append(l, span("b", -2, -1)), api.ErrEmpty, long)
	refused(t, append(l, span("b", 2, 1)), api.ErrForm, long)
	if !pred.Same(l, slices.Clone(l)) || pred.Same(l, l[1:]) || pred.Right(l) {
		t.Error("Same, Right")
	}
	for i := range l {
		l[i] = text("b", "x")
	}
	if got := pred.Say(l); got != strings.Repeat(`b="x",`, long-1)+`b="x"` {
		t.Error("Say:", len(got), "bytes")
	}
}

func TestZerosOfAllCalls(t *testing.T) {
	if pred.RightOne(api.Constraint{}) || !pred.Right(nil) || pred.Holds(api.Constraint{}, api.Value{}) || pred.Say(nil) != "" || !pred.Same(nil, nil) {
		t.Error("zeros")
	}
	if l, err := pred.Make(); len(l) != 0 || err != nil {
		t.Error(l, err)
	}
}
