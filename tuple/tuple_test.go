package tuple_test

import (
	"math"
	"slices"
	"strings"
	"testing"

	"broadside/api"
	"broadside/tuple"
	"broadside/value"
)

func num(name string, n int) api.Attr { return api.Attr{Name: name, Value: value.Number(n)} }

func text(name, s string) api.Attr { return api.Attr{Name: name, Value: value.Text(s)} }

func list(l ...api.Attr) []api.Attr { return l }

// right is lists that may be published, each another one.
func right() [][]api.Attr {
	return [][]api.Attr{
		nil,
		list(num("a", 1)),
		list(num("a", 2)),
		list(text("a", "1")),
		list(text("a", "")),
		list(num("a", 0)),
		list(num("z", math.MinInt64)),
		list(text("abcdefghijkl", "abcdefghijkl")),
		list(num("a", 1), text("b", "x")),
		list(num("a", 1), text("b", "x,c=1")),
		list(num("a", 1), num("b", 1)),
		list(num("a", 1), num("aa", 1)),
		list(num("a", 1), num("ab", 1), num("b", 1)),
		list(num("aaaaaaaaaaaa", 1), num("aaaaaaaaaaab", 1)),
		list(num("z", 1), num("za", 1), num("zz", math.MaxInt64)),
		list(num("a", 5), num("b", 4), num("c", 3), num("d", 2)),
		list(num("a", 5), num("b", 4), num("c", 3), num("d", 2), num("e", 1)),
		list(text("v", `"`), text("w", `\`), text("x", "\x00"), text("y", "\xff"), text("z", `","`)),
	}
}

// wrong is lists that may not be published, each with one fault.
func wrong() [][]api.Attr {
	return [][]api.Attr{
		list(num("", 1)),
		list(num("A", 1)),
		list(num("a1", 1)),
		list(num("abcdefghijklm", 1)),
		list(num("a", 1), num("b ", 1)),
		list(num("", 1), num("a", 1)),
		list(num("a", 1), num("a", 1)),
		list(num("a", 1), num("a", 2)),
		list(num("b", 1), num("a", 1)),
		list(num("aa", 1), num("a", 1)),
		list(num("a", 1), num("c", 1), num("b", 1)),
		list(num("b", 1), num("c", 1), num("a", 1)),
		list(num("a", 1), num("b", 1), num("c", 1), num("c", 1)),
		list(num("a", 1), num("b", 1), num("c", 1), num("e", 1), num("d", 1)),
		list(text("a", "abcdefghijklm")),
		list(num("a", 1), text("b", "abcdefghijklm")),
		list(text("a", "abcdefghijklm"), num("b", 1)),
		list(api.Attr{Name: "a", Value: api.Value{Text: "x"}}),
		list(num("a", 1), api.Attr{Name: "b", Value: api.Value{IsText: true, N: 1}}),
		list(num("a", 1), num("b", 1), num("c", 1), num("d", 1), num("e", 1), num("f", 1)),
		make([]api.Attr, 6),
		make([]api.Attr, 1<<16),
	}
}

// P3.1

func TestName(t *testing.T) {
	for n := range 3 * api.MaxName {
		for _, letter := range []string{"a", "m", "z"} {
			if s := strings.Repeat(letter, n); tuple.Name(s) != (1 <= n && n <= 12) {
				t.Errorf("a name of %d letters %s", n, letter)
			}
		}
	}
	for b := range 256 {
		small := 'a' <= b && b <= 'z'
		one := string([]byte{byte(b)})
		for _, s := range []string{one, one + "b", "b" + one, "b" + one + "b", strings.Repeat("b", 11) + one} {
			if tuple.Name(s) != small {
				t.Errorf("Name(%q) = %v", s, !small)
			}
		}
	}
	for _, s := range []string{"é", "ä", "aé", "\xc3", "ａ", "a\u0301", strings.Repeat("a", 1<<20)} {
		if tuple.Name(s) {
			t.Errorf("a name of %d bytes: %.20q", len(s), s)
		}
	}
}

func TestRight(t *testing.T) {
	for _, l := range append(right(), []api.Attr{}) {
		if !tuple.Right(l) {
			t.Errorf("%q isn't right", tuple.Say(l))
		}
	}
	for i, l := range wrong() {
		if tuple.Right(l) {
			t.Errorf("wrong list %d, %q, is right", i, tuple.Say(l))
		}
	}
}

func TestRightCountsAttributes(t *testing.T) {
	var l []api.Attr
	for n := range 3 * api.MaxAttrs {
		if tuple.Right(l) != (n <= 5) {
			t.Errorf("a list of %d", n)
		}
		l = append(l, num(string(rune('a'+n)), n))
	}
}

// R5: what stands in the room behind a list's length isn't read.
func TestRightReadsNoSpareRoom(t *testing.T) {
	l := list(num("a", 1), num("b", 1), num("A", 1), num("", 1), num("a", 1), num("a", 1))
	if !tuple.Right(l[:2]) || !tuple.Right(l[:0]) || tuple.Right(l[:3]) {
		t.Error("a list's spare room")
	}
}

// P3.2

func TestGet(t *testing.T) {
	for _, l := range append(right(), wrong()[:20]...) {
		for i, a := range l {
			first := slices.IndexFunc(l, func(b api.Attr) bool { return b.Name == a.Name })
			if v, ok := tuple.Get(l, a.Name); !ok || v != l[first].Value {
				t.Errorf("%q: Get of place %d: %#v, %v", tuple.Say(l), i, v, ok)
			}
		}
		for _, name := range []string{"none", "B", "bb", "\x00", "abcdefghijk", "a=1"} {
			if v, ok := tuple.Get(l, name); ok || v != (api.Value{}) {
				t.Errorf("%q: Get(%q) = %#v, %v", tuple.Say(l), name, v, ok)
			}
		}
	}
}

func TestGetIsOfTheFirst(t *testing.T) {
	l := list(num("b", 1), num("a", 2), text("b", "x"), text("a", "y"))
	if v, ok := tuple.Get(l, "a"); !ok || v != value.Number(2) {
		t.Errorf("a: %#v", v)
	}
	if v, ok := tuple.Get(l, "b"); !ok || v != value.Number(1) {
		t.Errorf("b: %#v", v)
	}
	if v, ok := tuple.Get(l[:1], "a"); ok || v != (api.Value{}) {
		t.Errorf("a of the spare room: %#v", v)
	}
}

// A zero value that is there is not none.
func TestGetTellsZeroFromNone(t *testing.T) {
	if v, ok := tuple.Get(list(num("a", 0)), "a"); !ok || v != (api.Value{}) {
		t.Errorf("%#v, %v", v, ok)
	}
	if v, ok := tuple.Get(list(num("", 7)), ""); !ok || v != value.Number(7) {
		t.Errorf("the empty name: %#v, %v", v, ok)
	}
	for _, none := range [][]api.Attr{nil, {}} {
		if v, ok := tuple.Get(none, ""); ok || v != (api.Value{}) {
			t.Errorf("the empty list: %#v, %v", v, ok)
		}
	}
}

func TestSay(t *testing.T) {
	for _, q := range []struct {
		l    []api.Attr
		want string
	}{
		{nil, ``},
		{[]api.Attr{}, ``},
		{list(num("a", 1)), `a=1`},
		{list(num("a", -12)), `a=-12`},
		{list(text("a", "")), `a=""`},
		{list(num("a", 1), text("b", "x")), `a=1,b="x"`},
		{list(num("a", 1), num("b", 2), num("c", 3)), `a=1,b=2,c=3`},
		{list(text("a", `b"c\`), text("d", ",e=1")), `a="b\"c\\",d=",e=1"`},
		{list(text("a", "\x00\xff")), "a=\"\x00\xff\""},
		{list(num("b", 1), num("a", 2), num("a", 2)), `b=1,a=2,a=2`},
		{list(num("", 1), num("A \"", 2)), `=1,A "=2`},
		{make([]api.Attr, 7), `=0,=0,=0,=0,=0,=0,=0`},
		{list(num("a", 1), num("b", 2))[:1], `a=1`},
		{list(num("a", math.MinInt64), num("b", math.MaxInt64)), `a=-9223372036854775808,b=9223372036854775807`},
	} {
		if got := tuple.Say(q.l); got != q.want {
			t.Errorf("Say = %q, want %q", got, q.want)
		}
	}
}

func TestSame(t *testing.T) {
	all := append(right(), wrong()...)
	for i, a := range all {
		for k, b := range all {
			if tuple.Same(a, slices.Clone(b)) != (i == k) {
				t.Errorf("Same of lists %d and %d: %v", i, k, i != k)
			}
		}
	}
	if !tuple.Same(nil, []api.Attr{}) || !tuple.Same([]api.Attr{}, nil) || !tuple.Same(nil, nil) {
		t.Error("empty lists")
	}
	if tuple.Same(nil, make([]api.Attr, 1)) || tuple.Same(make([]api.Attr, 1), nil) {
		t.Error("an empty list and one zero attribute")
	}
}

// Each field of each pair counts, also where two values say the same.
func TestSameLooksAtEachField(t *testing.T) {
	at := func(v api.Value) []api.Attr { return list(num("a", 1), api.Attr{Name: "b", Value: v}) }
	values := []api.Value{{}, {N: 1}, {Text: "x"}, {N: 1, Text: "x"}, {IsText: true}, {IsText: true, N: 1}, {IsText: true, Text: "x"}, {IsText: true, N: 1, Text: "x"}}
	for i, v := range values {
		for k, w := range values {
			if tuple.Same(at(v), at(w)) != (i == k) {
				t.Errorf("%#v and %#v", v, w)
			}
		}
	}
	if tuple.Same(list(num("a", 1), num("b", 2)), list(num("b", 2), num("a", 1))) {
		t.Error("two orders")
	}
	if tuple.Same(list(num("a", 1)), list(num("A", 1))) {
		t.Error("two names")
	}
	if l := list(num("a", 1), num("b", 2)); !tuple.Same(l[:1], list(num("a", 1), num("c", 3))[:1]) || tuple.Same(l, l[:1]) || tuple.Same(l[:1], l) {
		t.Error("two lengths")
	}
}

func TestRightListsAreSameJustIfTheySayTheSame(t *testing.T) {
	for _, a := range right() {
		for _, b := range right() {
			if (tuple.Say(a) == tuple.Say(b)) != tuple.Same(a, b) {
				t.Errorf("%q and %q", tuple.Say(a), tuple.Say(b))
			}
		}
	}
}

// P3.3

func TestPut(t *testing.T) {
	five := list(num("b", 1), num("d", 2), num("f", 3), num("h", 4), num("j", 5))
	n, s := value.Number, value.Text
	for _, q := range []struct {
		l    []api.Attr
		name string
		v    api.Value
		want string
	}{
		{nil, "a", n(1), `a=1`},
		{[]api.Attr{}, "a", s(""), `a=""`},
		{nil, "", n(0), `=0`},
		{list(num("a", 1), text("b", "x")), "a", n(2), `a=2,b="x"`},
		{list(num("a", 1), text("b", "x")), "b", n(2), `a=1,b=2`},
		{list(num("a", 1), text("b", "x")), "b", s("x"), `a=1,b="x"`},
		{list(num("a", 1), text("b", "x")), "a", n(0), `a=0,b="x"`},
		{list(num("a", 1), text("b", "x")), "aa", s("y"), `a=1,aa="y",b="x"`},
		{list(num("a", 1), text("b", "x")), "c", n(3), `a=1,b="x",c=3`},
		{list(num("a", 1), text("b", "x")), "A", n(3), `A=3,a=1,b="x"`},
		{list(num("a", 1), text("b", "x")), "", n(3), `=3,a=1,b="x"`},
		{list(num("aa", 1), num("ab", 2)), "a", n(3), `a=3,aa=1,ab=2`},
		{list(num("a", 1), num("\x7f", 2)), "\xff", n(3), "a=1,\x7f=2,\xff=3"},
		{five, "a", n(9), `a=9,b=1,d=2,f=3,h=4,j=5`},
		{five, "b", n(9), `b=9,d=2,f=3,h=4,j=5`},
		{five, "e", n(9), `b=1,d=2,e=9,f=3,h=4,j=5`},
		{five, "f", n(9), `b=1,d=2,f=9,h=4,j=5`},
		{five, "j", n(9), `b=1,d=2,f=3,h=4,j=9`},
		{five, "k", n(9), `b=1,d=2,f=3,h=4,j=5,k=9`},
		{five[:2], "e", n(9), `b=1,d=2,e=9`},
		{five[:2], "d", n(9), `b=1,d=9`},
	} {
		if got := tuple.Say(tuple.Put(q.l, q.name, q.v)); got != q.want {
			t.Errorf("Put(%q, %q) = %q, want %q", tuple.Say(q.l), q.name, got, q.want)
		}
	}
}

// Values and names that aren't right are put as they are.
func TestPutKeepsWhatItIsGiven(t *testing.T) {
	for _, v := range []api.Value{{Text: "x"}, {IsText: true, N: 3}, value.Text("abcdefghijklm")} {
		for _, name := range []string{"", "b", "abcdefghijklm", "~"} {
			l := tuple.Put(list(num("a", 1), num("b", 2)), name, v)
			if got, ok := tuple.Get(l, name); !ok || got != v {
				t.Errorf("Put(%q, %#v): %#v", name, v, got)
			}
		}
	}
}

func TestPutOfEachOrder(t *testing.T) {
	names := []string{"a", "b", "c", "d"}
	for _, first := range names {
		for _, second := range names {
			for _, third := range names {
				var l []api.Attr
				last := map[string]int{}
				for i, name := range []string{first, second, third, first} {
					l = tuple.Put(l, name, value.Number(i))
					last[name] = i
				}
				if !tuple.Right(l) || len(l) != len(last) {
					t.Errorf("%s %s %s: %q", first, second, third, tuple.Say(l))
				}
				for name, i := range last {
					if v, ok := tuple.Get(l, name); !ok || v != value.Number(i) {
						t.Errorf("%s %s %s: %q", first, second, third, tuple.Say(l))
					}
				}
			}
		}
	}
}

// R2: what is handed in isn't changed, its spare room included.
func TestPutChangesNothing(t *testing.T) {
	for _, name := range []string{"", "a", "aa", "b", "c", "d"} {
		room := list(num("a", 1), num("b", 2), num("c", 3), num("x", 4), num("y", 5))
		before := slices.Clone(room)
		tuple.Put(room[:3], name, value.Text("new"))
		if !slices.Equal(room, before) {
			t.Errorf("Put of %q changed its list: %q", name, tuple.Say(room))
		}
	}
}

// R2: an answer is new memory, its spare room too.
func TestPutIsNew(t *testing.T) {
	for _, name := range []string{"", "a", "aa", "b", "c", "d"} {
		room := list(num("a", 1), num("b", 2), num("c", 3), num("x", 4), num("y", 5))
		before := slices.Clone(room)
		one := tuple.Put(room[:3], name, value.Number(1))
		other := tuple.Put(room[:3], name, value.Number(1))
		said := tuple.Say(other)
		one = one[:cap(one)]
		for i := range one {
			one[i] = text("changed", "changed")
		}
		if !slices.Equal(room, before) || tuple.Say(other) != said {
			t.Errorf("an answer of %q shares memory", name)
		}
	}
}

// R1: whatever is given, every call ends, and none panics.

func TestPutOfNamesThatDontRise(t *testing.T) {
	for _, l := range wrong() {
		for _, name := range []string{"", "a", "b", "c", "zz", "A", "\xff"} {
			put := tuple.Put(l, name, value.Number(77))
			count := 0
			for _, a := range put {
				if a.Name == name {
					count++
				}
			}
			if v, ok := tuple.Get(put, name); count != 1 || !ok || v != value.Number(77) {
				t.Errorf("Put of %q: %d of that name", name, count)
			}
		}
	}
}

func TestLongLists(t *testing.T) {
	l := make([]api.Attr, 0, 1<<16)
	for range 1 << 16 {
		l = append(l, num("b", 1))
	}
	if got := tuple.Say(l); got != strings.Repeat("b=1,", 1<<16-1)+"b=1" {
		t.Error("Say:", len(got), "bytes")
	}
	if !tuple.Same(l, slices.Clone(l)) || tuple.Same(l, l[1:]) {
		t.Error("Same")
	}
	if got := tuple.Say(tuple.Put(l, "b", value.Number(2))); got != "b=2" {
		t.Error("Put:", len(got), "bytes")
	}
	if got := tuple.Put(l, "a", value.Number(2)); len(got) != 1<<16+1 || got[0] != num("a", 2) {
		t.Error("Put:", len(got), "attributes")
	}
}

func TestZerosOfAllCalls(t *testing.T) {
	if tuple.Name("") || !tuple.Right(nil) || tuple.Say(nil) != "" || !tuple.Same(nil, nil) {
		t.Error("zeros")
	}
	if l := tuple.Put(nil, "", api.Value{}); len(l) != 1 || l[0] != (api.Attr{}) {
		t.Errorf("Put of zeros: %#v", l)
	}
}
