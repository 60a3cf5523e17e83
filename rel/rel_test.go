package rel_test

import (
	"math"
	"slices"
	"strings"
	"testing"

	"broadside/api"
	"broadside/pred"
	"broadside/rel"
	"broadside/tuple"
	"broadside/value"
)

func span(name string, lo, hi int) api.Constraint {
	return api.Constraint{Name: name, Kind: api.CRange, Lo: lo, Hi: hi}
}

func text(name, s string) api.Constraint {
	return api.Constraint{Name: name, Kind: api.CText, Text: s}
}

func prefix(name, s string) api.Constraint {
	return api.Constraint{Name: name, Kind: api.CPrefix, Text: s}
}

func all(l ...api.Constraint) []api.Constraint { return l }

func num(name string, n int) api.Attr { return api.Attr{Name: name, Value: value.Number(n)} }

func word(name, s string) api.Attr { return api.Attr{Name: name, Value: value.Text(s)} }

func pub(l ...api.Attr) []api.Attr { return l }

// right is right constraints of that name, each another one.
func right(name string) []api.Constraint {
	return all(
		span(name, 1, 5), span(name, 2, 3), span(name, 3, 9), span(name, 5, 5), span(name, 5, 6), span(name, 6, 7), span(name, 7, 9), span(name, 0, 0),
		span(name, -4, 0), span(name, -9, -2), span(name, math.MinInt64, math.MaxInt64),
		span(name, math.MinInt64, math.MinInt64), span(name, math.MaxInt64, math.MaxInt64),
		span(name, math.MinInt64, 3), span(name, 3, math.MaxInt64),
		text(name, ""), text(name, "x"), text(name, "xy"), text(name, "y"), text(name, "\x00"), text(name, "\xff"),
		text(name, "abcdefghijk"), text(name, "abcdefghijkl"), text(name, "abcdefghijkm"),
		prefix(name, ""), prefix(name, "x"), prefix(name, "xy"), prefix(name, "xyz"), prefix(name, "y"), prefix(name, "\xff"),
		prefix(name, "abcdefghijk"), prefix(name, "abcdefghij"),
	)
}

// values is right values: of any two of right's constraints that don't hold of
// the same, one of these is held of by just one of the two.
func values() []api.Value {
	var l []api.Value
	for _, n := range []int{math.MinInt64, math.MinInt64 + 1, -10, -9, -5, -4, -2, -1, 0, 1, 2, 3, 4, 5, 6, 7, 8, 9, 10, math.MaxInt64 - 1, math.MaxInt64} {
		l = append(l, value.Number(n))
	}
	for _, s := range []string{"", "x", "xy", "xyz", "xyzz", "xx", "y", "yx", "z", "5", "\x00", "\xff", "\xffa", "abcdefghij", "abcdefghijk", "abcdefghijkl", "abcdefghijkm", "abcdefghijx"} {
		l = append(l, value.Text(s))
	}
	return l
}

// six is right constraints of six names that rise.
func six() []api.Constraint {
	return all(span("a", 1, 2), text("b", "x"), prefix("ba", ""), span("c", 0, 0), text("d", ""), prefix("zz", "y"))
}

// wrong is predicates that aren't in normal form.
func wrong() [][]api.Constraint {
	return [][]api.Constraint{
		make([]api.Constraint, 1), make([]api.Constraint, 6), six(),
		all(span("", 1, 2)), all(span("A", 1, 2)), all(text("abcdefghijklm", "x")),
		all(span("a", 2, 1)), all(span("a", math.MaxInt64, math.MinInt64)),
		all(api.Constraint{Name: "a"}), all(api.Constraint{Name: "a", Kind: -1, Lo: 1, Hi: 2, Text: "x"}), all(api.Constraint{Name: "a", Kind: 4}),
		all(api.Constraint{Name: "a", Kind: api.CRange, Lo: 1, Hi: 2, Text: "x"}), all(api.Constraint{Name: "a", Kind: api.CText, Lo: 1, Text: "x"}),
		all(text("a", "abcdefghijklm")), all(prefix("a", "abcdefghijkl")), all(prefix("a", strings.Repeat("a", 1<<16))),
		all(span("b", 1, 2), span("a", 1, 2)), all(span("a", 1, 2), span("a", 1, 2)), all(span("a", 1, 2), span("a", 5, 6)),
	}
}

// P5.1

func TestMatch(t *testing.T) {
	two := all(span("b", 1, 5), prefix("d", "x"))
	five := pub(num("a", 9), num("b", 5), num("c", 0), word("d", "xy"), word("e", "x"))
	for _, q := range []struct {
		p    []api.Constraint
		l    []api.Attr
		want bool
	}{
		{nil, nil, true},
		{nil, five, true},
		{two, nil, false},
		{two, five, true},
		{two, pub(five[1], five[3]), true},
		{two, five[:2], false},
		{two, five[2:], false},
		{two, five[:4], true},
		{two, five[1:], true},
		{two, pub(num("b", 6), word("d", "x")), false},
		{two, pub(num("b", 0), word("d", "x")), false},
		{two, pub(num("b", 1), word("d", "y")), false},
		{two, pub(word("b", "x"), word("d", "x")), false},
		{two, pub(word("b", "x"), num("d", 1)), false},
		{two, pub(num("b", 1), num("d", 1)), false},
		{two, pub(num("bb", 1), word("d", "x")), false},
		{two, pub(num("a", 1), num("b", 6), word("d", "x")), false},
		{all(span("a", 0, 0)), pub(word("a", "")), false},
		{all(text("a", "")), pub(num("a", 0)), false},
		{all(text("a", "")), pub(word("b", "")), false},
		{all(text("a", "")), pub(word("a", "")), true},
		{all(text("a", "x")), pub(word("a", "xy")), false},
		{all(prefix("a", "")), pub(num("a", 0)), false},
		{all(prefix("a", "abcdefghijk")), pub(word("a", "abcdefghijkl")), true},
		{all(span("a", math.MinInt64, math.MaxInt64)), pub(num("a", math.MinInt64)), true},
		{six()[:5], pub(num("a", 2), word("b", "x"), word("ba", "q"), num("c", 0), word("d", "")), true},
		{six()[:5], pub(num("a", 2), word("b", "x"), word("ba", "q"), num("c", 0), word("d", "q")), false},
		{six()[:5], pub(num("a", 2), word("b", "x"), word("ba", "q"), num("c", 0), word("e", "")), false},
	} {
		if rel.Match(q.p, q.l) != q.want {
			t.Errorf("Match of %s and %s: %v", pred.Say(q.p), tuple.Say(q.l), !q.want)
		}
	}
}

// A constraint alone is matched as it holds, whatever stands beside its value.
func TestMatchIsHolds(t *testing.T) {
	for _, c := range right("b") {
		for _, v := range values() {
			l := pub(num("a", 1), api.Attr{Name: "b", Value: v}, word("c", "x"))
			for _, l := range [][]api.Attr{l, l[1:], l[:2], l[1:2]} {
				if rel.Match(all(c), l) != pred.Holds(c, v) {
					t.Errorf("Match of %s and %s", pred.Say(all(c)), tuple.Say(l))
				}
			}
		}
	}
}

// sampled asks for a right publication that p matches, of p's names alone.
func sampled(t *testing.T, p []api.Constraint) {
	t.Helper()
	l := rel.Sample(p)
	if !tuple.Right(l) || !rel.Match(p, l) || len(l) != len(p) {
		t.Errorf("Sample of %s: %s", pred.Say(p), tuple.Say(l))
		return
	}
	for i, c := range p {
		if l[i].Name != c.Name {
			t.Errorf("Sample of %s: %s", pred.Say(p), tuple.Say(l))
		}
	}
}

func TestSample(t *testing.T) {
	sampled(t, nil)
	sampled(t, []api.Constraint{})
	sampled(t, six()[:5])
	sampled(t, six()[1:])
	for _, name := range []string{"a", "abcdefghijkl"} {
		for _, c := range right(name) {
			sampled(t, all(c))
			sampled(t, all(span("a", 7, 7), c)[1:])
		}
	}
	for _, c := range right("a") {
		for _, d := range right("b") {
			sampled(t, all(c, d))
		}
	}
}

// P5.2, P5.3

// relation is how a and b are, asked of each of these publications.
func relation(a, b []api.Constraint, of [][]api.Attr) (meets, covers bool) {
	covers = true
	for _, l := range of {
		m, n := rel.Match(a, l), rel.Match(b, l)
		meets = meets || m && n
		covers = covers && (m || !n)
	}
	return meets, covers
}

// asked holds all that is said of a and b against what must be said.
func asked(t *testing.T, a, b []api.Constraint, meets, covers bool) {
	t.Helper()
	if rel.Meets(a, b) != meets {
		t.Errorf("Meets of %s and %s: %v", pred.Say(a), pred.Say(b), !meets)
	}
	if rel.Covers(a, b) != covers {
		t.Errorf("Covers of %s and %s: %v", pred.Say(a), pred.Say(b), !covers)
	}
	l, ok := rel.Joint(a, b)
	if ok != meets {
		t.Errorf("Joint of %s and %s: %s, %v", pred.Say(a), pred.Say(b), tuple.Say(l), ok)
	}
	if !ok && l != nil || ok && (!tuple.Right(l) || !rel.Match(a, l) || !rel.Match(b, l)) {
		t.Errorf("Joint of %s and %s: %s, %v", pred.Say(a), pred.Say(b), tuple.Say(l), ok)
	}
}

func TestOneConstraintEach(t *testing.T) {
	pubs := [][]api.Attr{nil}
	for _, v := range values() {
		pubs = append(pubs, pub(api.Attr{Name: "a", Value: v}))
	}
	for i, c := range right("a") {
		for k, d := range right("a") {
			meets, covers := relation(all(c), all(d), pubs)
			asked(t, all(c), all(d), meets, covers)
			if i == k && !(meets && covers) {
				t.Errorf("%s and itself", pred.Say(all(c)))
			}
		}
	}
}

// some is predicates on a and b, of neither, one or both.
func some() [][]api.Constraint {
	var l [][]api.Constraint
	on := func(name string) []api.Constraint {
		return all(api.Constraint{}, span(name, 1, 5), span(name, 3, 9), span(name, 5, 5), span(name, 6, 7), text(name, "x"), text(name, "xy"), prefix(name, ""), prefix(name, "x"))
	}
	for _, c := range on("a") {
		for _, d := range on("b") {
			l = append(l, slices.DeleteFunc(all(c, d), func(c api.Constraint) bool { return c.Kind == 0 }))
		}
	}
	return l
}

// few is publications of a and b: enough to tell how any of some are.
func few() [][]api.Attr {
	var l [][]api.Attr
	on := func(name string) []api.Attr {
		return pub(api.Attr{}, num(name, 1), num(name, 3), num(name, 5), num(name, 6), num(name, 8), word(name, ""), word(name, "x"), word(name, "xy"), word(name, "xz"))
	}
	for _, c := range on("a") {
		for _, d := range on("b") {
			l = append(l, slices.DeleteFunc(pub(c, d), func(a api.Attr) bool { return a.Name == "" }))
		}
	}
	return l
}

func TestTwoConstraintsEach(t *testing.T) {
	pubs := few()
	for _, a := range some() {
		for _, b := range some() {
			meets, covers := relation(a, b, pubs)
			asked(t, a, b, meets, covers)
		}
	}
}

func TestAtTheEdges(t *testing.T) {
	abc := all(span("a", 1, 2), span("b", 1, 2), span("c", 1, 2))
	for _, q := range []struct {
		a, b          []api.Constraint
		meets, covers bool
	}{
		{nil, nil, true, true},
		{nil, []api.Constraint{}, true, true},
		{nil, abc, true, true},
		{abc, nil, true, false},
		{all(span("a", 1, 5)), all(span("a", 5, 9)), true, false},
		{all(span("a", 1, 5)), all(span("a", 6, 9)), false, false},
		{all(span("a", 1, 5)), all(span("a", 1, 5)), true, true},
		{all(span("a", 1, 5)), all(span("a", 0, 5)), true, false},
		{all(span("a", 1, 5)), all(span("a", 1, 6)), true, false},
		{all(span("a", 1, 5)), all(span("a", 5, 5)), true, true},
		{all(span("a", math.MinInt64, math.MaxInt64)), all(prefix("a", "")), false, false},
		{all(span("a", math.MinInt64, math.MaxInt64)), all(span("a", 0, 0)), true, true},
		{all(span("a", 0, 0)), all(text("a", "")), false, false},
		{all(prefix("a", "")), all(text("a", "")), true, true},
		{all(text("a", "")), all(prefix("a", "")), true, false},
		{all(text("a", "abcdefghijk")), all(prefix("a", "abcdefghijk")), true, false},
		{all(text("a", "abcdefghijkl")), all(prefix("a", "abcdefghijk")), true, false},
		{all(prefix("a", "abcdefghijk")), all(text("a", "abcdefghijkl")), true, true},
		{all(prefix("a", "abcdefghijk")), all(text("a", "abcdefghij")), false, false},
		{all(prefix("a", "xy")), all(prefix("a", "x")), true, false},
		{all(prefix("a", "x")), all(prefix("a", "xy")), true, true},
		{all(prefix("a", "xa")), all(prefix("a", "xb")), false, false},
		{all(span("a", 1, 5)), all(span("b", 2, 3)), true, false},
		{all(span("aa", 1, 5)), all(span("a", 2, 3)), true, false},
		{abc, abc[1:], true, false},
		{abc[1:], abc, true, true},
		{abc[:2], abc, true, true},
		{all(abc[0], abc[2]), abc, true, true},
		{all(span("b", 1, 1)), abc, true, false},
		{all(span("b", 2, 3)), abc, true, false},
		{all(span("b", 3, 3)), abc, false, false},
		{all(span("a", 0, 9), span("b", 3, 3)), abc, false, false},
		{all(span("a", 3, 3), span("b", 0, 9)), abc, false, false},
	} {
		asked(t, q.a, q.b, q.meets, q.covers)
		if rel.Meets(q.b, q.a) != q.meets {
			t.Errorf("Meets of %s and %s, turned", pred.Say(q.a), pred.Say(q.b))
		}
	}
}

// No right publication has more than MaxAttrs names.
func TestNamesOfBoth(t *testing.T) {
	const letters = "abcdefghij"
	names := func(from, to int) []api.Constraint {
		var p []api.Constraint
		for i := from; i < to; i++ {
			p = append(p, span(letters[i:i+1], i, 9))
		}
		return p
	}
	for n := range api.MaxAttrs + 1 {
		for from := range api.MaxAttrs + 1 {
			for m := range api.MaxAttrs + 1 {
				a, b := names(0, n), names(from, from+m)
				count := max(n, from+m)
				if m == 0 || from > n {
					count = n + m
				}
				within := m == 0 || from+m <= n
				asked(t, a, b, count <= api.MaxAttrs, n == 0 || m > 0 && from == 0 && n <= m)
				asked(t, b, a, count <= api.MaxAttrs, within)
			}
		}
	}
	five := six()[:5]
	asked(t, five, five, true, true)
	asked(t, five, six()[5:], false, false)
	asked(t, five, six()[1:], false, false)
	asked(t, six()[:4], six()[5:], true, false)
	asked(t, nil, five, true, true)
}

// A name that just one of the two asks for is there; one that both ask for is
// there once.
func TestJointHasAllNames(t *testing.T) {
	l, ok := rel.Joint(all(span("a", 1, 5), prefix("c", "x")), all(text("b", "y"), text("c", "xz"), span("d", -1, 0)))
	if !ok || len(l) != 4 {
		t.Fatal(tuple.Say(l), ok)
	}
	if v, _ := tuple.Get(l, "c"); v != value.Text("xz") {
		t.Error(tuple.Say(l))
	}
}

// The chapter's runs.
func TestRuns(t *testing.T) {
	a := all(span("a", 1, 5))
	asked(t, a, all(text("b", "x")), true, false)
	asked(t, a, all(span("a", 2, 3), text("b", "x")), true, true)
	asked(t, a, all(span("a", 7, 9)), false, false)
}

// R2, R5: what is handed in isn't changed, and its spare room isn't read.
func TestWhatIsHandedInStays(t *testing.T) {
	rooms := [][]api.Constraint{
		all(span("a", 1, 5), text("b", "x"), prefix("c", "y"), span("c", 2, 1), span("a", 7, 9), api.Constraint{}),
		all(span("a", 3, 9), prefix("b", ""), text("c", "yz"), span("a", 7, 9), text("b", "q"), six()[5]),
	}
	lists := pub(num("a", 4), word("b", "x"), word("c", "yz"), num("a", 9), api.Attr{})
	wasA, wasB, wasL := slices.Clone(rooms[0]), slices.Clone(rooms[1]), slices.Clone(lists)
	for n := range 4 {
		for m := range 4 {
			a, b := rooms[0][:n], rooms[1][:m]
			asked(t, a, b, true, n == 0)
			rel.Sample(a)
			if rel.Match(a, lists[:m]) != (n <= m) || rel.Match(b, lists[:n]) != (m <= n) {
				t.Errorf("Match of %d and %d", n, m)
			}
			if !slices.Equal(rooms[0], wasA) || !slices.Equal(rooms[1], wasB) || !slices.Equal(lists, wasL) {
				t.Fatalf("%d and %d changed what was handed in", n, m)
			}
		}
	}
}

// R2: an answer is new memory, its spare room too.
func TestAnswersAreNew(t *testing.T) {
	p, q := six()[:4], six()[1:5]
	joint := func() []api.Attr {
		l, _ := rel.Joint(p, q)
		return l
	}
	sample := func() []api.Attr { return rel.Sample(p) }
	for i, ask := range []func() []api.Attr{sample, joint} {
		one, other := ask(), ask()
		was := slices.Clone(other)
		one = one[:cap(one)]
		for k := range one {
			one[k] = word("changed", "changed")
		}
		if !slices.Equal(other, was) || !slices.Equal(ask(), was) {
			t.Errorf("answers %d share memory", i)
		}
	}
}

// R1: whatever is given, every call ends, and none panics.

func askAll(a, b []api.Constraint, l []api.Attr) {
	rel.Match(a, l)
	rel.Match(a, rel.Sample(b))
	rel.Meets(a, b)
	rel.Covers(a, b)
	rel.Joint(a, b)
}

func TestOfWhateverEnds(t *testing.T) {
	lists := [][]api.Attr{nil, make([]api.Attr, 1), make([]api.Attr, 9), pub(num("a", 1), num("a", 2)), pub(api.Attr{Name: "a", Value: api.Value{IsText: true, N: 1, Text: strings.Repeat("a", 1<<16)}})}
	preds := append(wrong(), some()...)
	for _, a := range preds {
		for _, b := range preds {
			askAll(a, b, lists[0])
		}
		for _, l := range lists {
			askAll(a, a, l)
		}
	}
}

// Of predicates that aren't in normal form nothing is promised; but where a
// publication is told to match both, it does.
func TestJointOfWrongOnes(t *testing.T) {
	for i, a := range wrong() {
		for _, b := range append(wrong(), some()...) {
			if l, ok := rel.Joint(a, b); ok != rel.Meets(a, b) || !ok && l != nil || ok && (!tuple.Right(l) || !rel.Match(a, l) || !rel.Match(b, l)) {
				t.Errorf("wrong one %d and %s: %s, %v", i, pred.Say(b), tuple.Say(l), ok)
			}
		}
	}
}

func TestLongLists(t *testing.T) {
	const long = 1 << 16
	p := make([]api.Constraint, long)
	l := make([]api.Attr, long)
	for i := range long {
		p[i], l[i] = span("a", -i, i), num("a", 0)
	}
	if !rel.Match(p, l) || !rel.Meets(p, p) || len(rel.Sample(p)) != long {
		t.Error("long lists")
	}
	if l, ok := rel.Joint(p, nil); !ok || tuple.Say(l) != "a=0" {
		t.Error(tuple.Say(l), ok)
	}
	rel.Covers(p, p)
	rel.Covers(p, p[:1])
}
