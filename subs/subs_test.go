package subs_test

import (
	"fmt"
	"math"
	"slices"
	"testing"

	"broadside/adverts"
	"broadside/api"
	"broadside/rel"
	"broadside/subs"
	"broadside/value"
)

func id(client, seq int) api.ID { return api.ID{Client: client, Seq: seq} }

func list(l ...api.Constraint) []api.Constraint { return l }

func span(name string, lo, hi int) api.Constraint {
	return api.Constraint{Name: name, Kind: api.CRange, Lo: lo, Hi: hi}
}

func text(name, s string) api.Constraint {
	return api.Constraint{Name: name, Kind: api.CText, Text: s}
}

func begin(name, s string) api.Constraint {
	return api.Constraint{Name: name, Kind: api.CPrefix, Text: s}
}

func advert(x api.ID, parent int, l ...api.Constraint) api.Advert {
	return api.Advert{ID: x, Pred: l, Parent: parent}
}

func entry(tree, sub api.ID, from int, up bool, l ...api.Constraint) api.Entry {
	return api.Entry{Tree: tree, Sub: sub, Pred: l, From: from, Up: up}
}

// told is all that is in x; nil and empty lists are told the same.
func told(x any) string { return fmt.Sprintf("%+v", x) }

// The trees of full: one from 1, one of its own, one from 4, one from 0 that
// nobody subscribed to.
var first, own, second, bare = id(1, 2), id(1, 5), id(2, 0), id(5, 5)

// full is a right and tight broker with some of everything.
func full() api.Broker {
	return api.Broker{
		Me:      3,
		Near:    []int{0, 1, 4, 6},
		Adverts: []api.Advert{advert(first, 1, span("a", 1, 9)), advert(own, api.Local), advert(second, 4), advert(bare, 0, text("b", "x"))},
		Seen:    []api.ID{id(0, 7), first, id(1, 3), own, second, bare},
		Entries: []api.Entry{
			entry(first, id(0, 3), 0, true, span("a", 1, 9)),
			entry(first, id(0, 4), 4, false, span("a", 2, 3)),
			entry(first, id(1, 2), 6, false, span("a", 2, 6)),
			entry(first, id(2, 0), api.Local, false, span("a", 5, 6)),
			entry(first, id(5, 5), 4, false, span("a", 2, 3), text("b", "xy")),
			entry(first, id(6, 0), api.Local, true, begin("b", "x")),
			entry(own, id(0, 3), 0, false, span("a", 1, 9)),
			entry(own, id(0, 4), 1, false, span("a", 2, 3)),
			entry(own, id(6, 0), api.Local, false),
			entry(second, id(0, 3), 0, true, span("a", 1, 9)),
			entry(second, id(0, 4), 1, false, span("a", 4, 4)),
			entry(second, id(7, 0), api.Local, true, span("c", 0, 0)),
		},
		Owns: []api.Own{{ID: id(2, 0), Pred: list(span("a", 5, 6))}, {ID: id(6, 0), Pred: list(begin("b", "x"))}, {ID: id(7, 0), Pred: list(span("c", 0, 0))}},
	}
}

// odd is numbers of all sizes.
func odd() []int {
	return []int{math.MinInt, math.MinInt + 1, -2, -1, 0, 1, 2, 63, 64, math.MaxInt - 1, math.MaxInt}
}

func TestFullIsRight(t *testing.T) {
	if !adverts.Right(full()) || !subs.Tight(full()) {
		t.Fatal(full())
	}
}

// P10.1

func TestFind(t *testing.T) {
	b := full()
	for _, e := range full().Entries {
		if got, ok := subs.Find(b, e.Tree, e.Sub); !ok || told(got) != told(e) {
			t.Error(e, got, ok)
		}
	}
	ids := []api.ID{{}, id(0, 3), id(0, 4), id(0, 5), first, id(1, 3), own, second, id(2, 1), bare, id(6, 0), id(7, 0), id(9, 9), id(math.MinInt, 0), id(math.MaxInt, math.MaxInt)}
	for _, tree := range ids {
		for _, sub := range ids {
			want, there := api.Entry{}, false
			for _, e := range full().Entries {
				if e.Tree == tree && e.Sub == sub {
					want, there = e, true
				}
			}
			if got, ok := subs.Find(b, tree, sub); ok != there || told(got) != told(want) {
				t.Error(tree, sub, got, ok)
			}
		}
	}
	if got, ok := subs.Find(api.Broker{}, api.ID{}, api.ID{}); ok || told(got) != told(api.Entry{}) {
		t.Error(got, ok)
	}
}

// A tree and a subscription may have one and the same ID; and which is asked
// for as which is not the same.
func TestFindTellsTreesFromSubs(t *testing.T) {
	b := adverts.New(0, 1, 2)
	for _, x := range []api.ID{id(1, 0), id(2, 0)} {
		b, _ = adverts.Learn(b, advert(x, 1))
	}
	b, _ = subs.Add(b, entry(id(1, 0), id(1, 0), 2, false))
	b, _ = subs.Add(b, entry(id(1, 0), id(2, 0), 2, false))
	if _, ok := subs.Find(b, id(1, 0), id(2, 0)); !ok {
		t.Error("not found")
	}
	if _, ok := subs.Find(b, id(2, 0), id(1, 0)); ok {
		t.Error("found")
	}
	if _, ok := subs.Find(b, id(2, 0), id(2, 0)); ok {
		t.Error("found")
	}
}

func TestOf(t *testing.T) {
	b := full()
	for _, q := range []struct {
		tree api.ID
		l    []api.Entry
	}{
		{first, full().Entries[:6]}, {own, full().Entries[6:9]}, {second, full().Entries[9:]}, {bare, nil},
		{api.ID{}, nil}, {id(1, 1), nil}, {id(1, 3), nil}, {id(1, 6), nil}, {id(0, 3), nil}, {id(2, 1), nil}, {id(6, 0), nil},
		{id(math.MinInt, math.MinInt), nil}, {id(math.MaxInt, math.MaxInt), nil},
	} {
		if got := subs.Of(b, q.tree); told(got) != told(q.l) {
			t.Error(q.tree, got)
		}
		if got := subs.Of(api.Broker{}, q.tree); len(got) > 0 {
			t.Error(q.tree, got)
		}
	}
}

// P10.2

func TestCovered(t *testing.T) {
	for _, q := range []struct {
		tree api.ID
		p    []api.Constraint
		want bool
	}{
		// alike, within, with more names
		{first, list(span("a", 1, 9)), true},
		{first, list(span("a", 2, 8)), true},
		{first, list(span("a", 1, 1)), true},
		{first, list(span("a", 9, 9)), true},
		{first, list(span("a", 4, 5), text("z", "q")), true},
		{first, list(text("b", "x")), true},
		{first, list(text("b", "xyz")), true},
		{first, list(begin("b", "xy")), true},
		{first, list(span("a", 0, 99), begin("b", "x")), true},
		// one beyond, of other kinds, of other names, of none
		{first, list(span("a", 0, 9)), false},
		{first, list(span("a", 1, 10)), false},
		{first, list(span("a", math.MinInt, math.MaxInt)), false},
		{first, list(text("a", "x")), false},
		{first, list(text("b", "")), false},
		{first, list(begin("b", "")), false},
		{first, list(text("b", "yx")), false},
		{first, list(span("b", 1, 9)), false},
		{first, list(span("c", 0, 0)), false},
		{first, nil, false},
		// what other trees pass on doesn't count, nor what isn't passed on
		{second, list(span("a", 1, 9)), true},
		{second, list(span("c", 0, 0)), true},
		{second, list(text("b", "x")), false},
		{own, list(span("a", 2, 3)), false},
		{own, list(span("a", 1, 9)), false},
		{own, nil, false},
		{bare, list(text("b", "x")), false},
		{bare, nil, false},
		{id(0, 3), list(span("a", 1, 9)), false},
		{api.ID{}, nil, false},
	} {
		if got := subs.Covered(full(), q.tree, q.p); got != q.want {
			t.Error(q, got)
		}
		if subs.Covered(api.Broker{}, q.tree, q.p) {
			t.Error(q)
		}
	}
}

// Whether an entry is Up decides, wherever it stands.
func TestCoveredAsksUp(t *testing.T) {
	b := full()
	for i := range b.Entries {
		b.Entries[i].Up = false
	}
	for i, e := range b.Entries {
		if subs.Covered(b, e.Tree, e.Pred) {
			t.Error(i, "nothing is up")
		}
		b.Entries[i].Up = true
		if !subs.Covered(b, e.Tree, e.Pred) || !subs.Covered(b, e.Tree, append(slices.Clone(e.Pred), text("q", "q"))) {
			t.Error(i, "it is up")
		}
		b.Entries[i].Up = false
	}
}

// One entry has to cover all: that two do it together is not enough.
func TestCoveredByOne(t *testing.T) {
	b := adverts.New(0, 1, 2)
	b, _ = adverts.Learn(b, advert(id(1, 0), 1))
	b, _ = subs.Add(b, entry(id(1, 0), id(9, 1), 2, false, span("a", 1, 5)))
	b, _ = subs.Add(b, entry(id(1, 0), id(9, 2), 2, false, span("a", 6, 9)))
	if subs.Covered(b, id(1, 0), list(span("a", 5, 6))) || !subs.Covered(b, id(1, 0), list(span("a", 6, 6))) {
		t.Error(b)
	}
	// What asks for nothing covers all.
	b, up := subs.Add(b, entry(id(1, 0), id(9, 0), 2, false))
	if !up || !subs.Covered(b, id(1, 0), nil) || !subs.Covered(b, id(1, 0), list(span("a", 5, 6))) {
		t.Error(b)
	}
}

// P10.3

func TestAddPutsInPlace(t *testing.T) {
	for i, q := range []struct {
		at int
		e  api.Entry
		up bool
	}{
		{0, entry(first, id(0, 2), 0, true, span("a", 2, 3)), false},
		{0, entry(first, id(math.MinInt, math.MaxInt), 4, false, span("a", 0, 3)), true},
		{1, entry(first, id(0, 4), 4, false), true},
		{3, entry(first, id(1, 3), 6, true, text("b", "xyz")), false},
		{3, entry(first, id(1, 3), 3, true, text("b", "yz")), true},
		{6, entry(first, id(math.MaxInt, 0), api.Local, false, text("c", "")), true},
		{6, entry(own, id(0, 2), 4, true, text("c", "")), false},
		{9, entry(own, id(6, 1), api.Local, true), false},
		{9, entry(second, id(-1, 0), api.Local, true, span("a", 4, 4)), false},
		{11, entry(second, id(0, 5), 6, true, span("a", 0, 4)), true},
		{12, entry(second, id(7, 1), 1, false, span("c", 0, 0)), false},
		{12, entry(bare, id(0, 0), 1, false, span("a", 4, 4)), true},
		{12, entry(bare, bare, api.Local, false), true},
	} {
		b, want := full(), full()
		if q.at == 1 {
			b.Entries, want.Entries = slices.Delete(b.Entries, 1, 2), slices.Delete(want.Entries, 1, 2)
		}
		put := q.e
		put.Up = q.up
		want.Entries = slices.Insert(want.Entries, q.at, put)
		for _, said := range []bool{false, true} {
			q.e.Up = said
			if got, up := subs.Add(b, q.e); up != q.up || told(got) != told(want) || !subs.Tight(got) {
				t.Error(i, got, up)
			}
		}
	}
}

func TestAddRefuses(t *testing.T) {
	var l []api.Entry
	// trees that there are not: seen ones, too, and what is a subscription's ID
	for _, tree := range []api.ID{{}, id(0, 7), id(1, 3), id(1, 1), id(6, 0), id(0, 3), id(5, 6), id(math.MinInt, 0)} {
		for _, from := range []int{api.Local, 0, 1, 4, 6, 9} {
			l = append(l, entry(tree, id(8, 8), from, true), entry(tree, id(0, 3), from, true, span("z", 1, 2)))
		}
	}
	// what is there: from wherever, with whatever predicate
	for _, e := range full().Entries {
		for _, from := range []int{e.From, api.Local, 0, 1, 4, 6, 9} {
			l = append(l, entry(e.Tree, e.Sub, from, true), entry(e.Tree, e.Sub, from, true, span("z", 1, 2)), entry(e.Tree, e.Sub, from, e.Up, e.Pred...))
		}
	}
	// what comes from the parent
	for _, a := range full().Adverts {
		if a.Parent != api.Local {
			l = append(l, entry(a.ID, id(8, 8), a.Parent, true), entry(a.ID, id(0, 0), a.Parent, false, span("a", 2, 3)))
		}
	}
	for i, e := range l {
		if got, up := subs.Add(full(), e); up || told(got) != told(full()) {
			t.Error(i, e, got, up)
		}
	}
}

// Another tree's parent is no hindrance; and at a root its own client may ask.
func TestAddAsksItsOwnParent(t *testing.T) {
	for i, q := range []struct {
		tree api.ID
		from int
		in   bool
	}{
		{first, 1, false}, {first, 4, true}, {first, 0, true}, {first, api.Local, true},
		{second, 4, false}, {second, 1, true}, {second, 0, true}, {second, api.Local, true},
		{bare, 0, false}, {bare, 1, true}, {bare, 4, true}, {bare, api.Local, true},
		{own, api.Local, true}, {own, 0, true}, {own, 1, true}, {own, 4, true},
	} {
		got, up := subs.Add(full(), entry(q.tree, id(8, 8), q.from, false))
		e, ok := subs.Find(got, q.tree, id(8, 8))
		if ok != q.in || up != (q.in && q.tree != own) || adverts.Same(got, full()) == q.in || !adverts.Right(got) {
			t.Error(i, q, got, up)
		}
		if ok && (e.From != q.from || e.Up != up) {
			t.Error(i, e)
		}
	}
}

// A wide one that comes behind narrow ones is passed on; they stay as they are.
func TestAddLeavesTheRest(t *testing.T) {
	b := adverts.New(0, 1, 2)
	b, _ = adverts.Learn(b, advert(id(1, 0), 1))
	for i, q := range []struct {
		sub    int
		lo, hi int
		up     bool
	}{{5, 2, 3, true}, {6, 3, 4, true}, {4, 2, 4, true}, {7, 1, 9, true}, {1, 1, 9, false}, {9, 0, 9, true}, {0, 0, 9, false}, {8, 4, 4, false}} {
		was := b.Entries
		next, up := subs.Add(b, entry(id(1, 0), id(9, q.sub), 2, !q.up, span("a", q.lo, q.hi)))
		rest := slices.DeleteFunc(subs.Of(next, id(1, 0)), func(e api.Entry) bool { return e.Sub == id(9, q.sub) })
		if up != q.up || told(rest) != told(was) || !adverts.Right(next) || !subs.Tight(next) {
			t.Error(i, next, up)
		}
		b = next
	}
}

// P10.4

// change is an entry of full, and whether it is Up then.
type change struct {
	at int
	up bool
}

func TestTake(t *testing.T) {
	for at, raised := range map[int][]int{0: {1, 2}, 5: nil, 9: {10}, 11: nil, 1: nil, 2: nil, 3: nil, 4: nil, 6: nil, 7: nil, 8: nil, 10: nil} {
		e := full().Entries[at]
		want := full()
		var up []api.Entry
		for _, i := range raised {
			want.Entries[i].Up = true
			up = append(up, want.Entries[i])
		}
		want.Entries = slices.Delete(want.Entries, at, at+1)
		got, gotUp, was := subs.Take(full(), e.Tree, e.Sub, e.From)
		if was != e.Up || told(gotUp) != told(up) || told(got) != told(want) || !adverts.Right(got) || !subs.Tight(got) {
			t.Error(at, got, gotUp, was)
		}
		if again, up, was := subs.Take(got, e.Tree, e.Sub, e.From); was || len(up) > 0 || told(again) != told(got) {
			t.Error(at, again, up, was)
		}
	}
}

func TestTakeRefuses(t *testing.T) {
	b := full()
	// from others than it came from: from the parent, too
	for _, e := range full().Entries {
		for _, from := range append(odd(), 3, 4, 6, 9) {
			if from == e.From {
				continue
			}
			if got, up, was := subs.Take(b, e.Tree, e.Sub, from); was || len(up) > 0 || told(got) != told(full()) {
				t.Error(e, from, got, up, was)
			}
		}
	}
	// what there isn't
	for _, q := range [][2]api.ID{{first, id(0, 5)}, {first, id(7, 0)}, {own, id(7, 0)}, {bare, id(0, 3)}, {id(0, 3), first}, {id(1, 3), id(0, 3)}, {{}, {}}, {first, {}}, {{}, id(0, 3)}} {
		for _, from := range []int{api.Local, 0, 1, 4, 6, 9} {
			for _, b := range []api.Broker{full(), {}, adverts.New(3, 0, 1)} {
				if got, up, was := subs.Take(b, q[0], q[1], from); was || len(up) > 0 || told(got) != told(b) {
					t.Error(q, from, got, up, was)
				}
			}
		}
	}
}

// rowOf is a broker with one tree, from 1, whose entries, from 2, are of these
// ranges; each is Up that is said to be.
func rowOf(ups string, ranges ...[2]int) api.Broker {
	b := api.Broker{Near: []int{1, 2}, Adverts: []api.Advert{advert(id(1, 0), 1)}, Seen: []api.ID{id(1, 0)}}
	for i, r := range ranges {
		b.Entries = append(b.Entries, entry(id(1, 0), id(9, i), 2, ups[i] == '+', span("a", r[0], r[1])))
	}
	return b
}

// upsOf tells which of b's entries are Up, and which not.
func upsOf(b api.Broker) string {
	s := ""
	for _, e := range b.Entries {
		s += map[bool]string{true: "+", false: "-"}[e.Up]
	}
	return s
}

// What became Up just now covers those behind it, not those ahead; and what
// was Up before covers, wherever it stands.
func TestTakeRaisesInOrder(t *testing.T) {
	wide := [2]int{0, 9}
	for i, q := range []struct {
		b    api.Broker
		take int
		ups  string
		up   string
	}{
		{rowOf("+---", wide, [2]int{1, 1}, [2]int{1, 1}, [2]int{1, 1}), 0, "+--", "1"},
		{rowOf("+---", wide, [2]int{1, 1}, [2]int{1, 2}, [2]int{1, 3}), 0, "+++", "123"},
		{rowOf("+---", wide, [2]int{1, 3}, [2]int{1, 2}, [2]int{1, 1}), 0, "+--", "1"},
		{rowOf("+---", wide, [2]int{1, 2}, [2]int{1, 3}, [2]int{1, 1}), 0, "++-", "12"},
		{rowOf("+---", wide, [2]int{1, 2}, [2]int{4, 5}, [2]int{2, 4}), 0, "+++", "123"},
		{rowOf("---+", [2]int{1, 1}, [2]int{1, 2}, [2]int{1, 1}, wide), 3, "++-", "01"},
		{rowOf("--+-", [2]int{1, 1}, [2]int{1, 2}, wide, [2]int{0, 9}), 2, "+++", "013"},
		{rowOf("-+--", [2]int{1, 1}, wide, [2]int{0, 9}, [2]int{0, 9}), 1, "++-", "02"},
		{rowOf("+--+", wide, [2]int{1, 1}, [2]int{3, 4}, [2]int{1, 2}), 0, "-++", "2"},
		{rowOf("+--+", wide, [2]int{1, 1}, [2]int{3, 4}, wide), 0, "--+", ""},
		{rowOf("+--+", wide, [2]int{1, 1}, [2]int{3, 4}, [2]int{1, 2}), 3, "+--", ""},
		{rowOf("++-+", [2]int{1, 5}, [2]int{3, 9}, [2]int{4, 4}, [2]int{3, 3}), 0, "+-+", ""},
		{rowOf("+", wide), 0, "", ""},
	} {
		x := id(9, q.take)
		got, up, was := subs.Take(q.b, id(1, 0), x, 2)
		s := ""
		for _, e := range up {
			s += fmt.Sprint(e.Sub.Seq)
			if now, ok := subs.Find(got, e.Tree, e.Sub); !ok || !e.Up || told(now) != told(e) {
				t.Error(i, e, now)
			}
		}
		if _, still := subs.Find(got, id(1, 0), x); still || !was || upsOf(got) != q.ups || s != q.up || !subs.Tight(got) {
			t.Error(i, got, s, was)
		}
	}
}

// One that wasn't passed on goes, and nothing else changes, even what isn't covered.
func TestTakeOfOneThatWasNotUp(t *testing.T) {
	b := rowOf("---", [2]int{0, 9}, [2]int{1, 1}, [2]int{20, 30})
	got, up, was := subs.Take(b, id(1, 0), id(9, 0), 2)
	if was || len(up) > 0 || upsOf(got) != "--" || told(got.Entries) != told(b.Entries[1:]) {
		t.Error(got, up, was)
	}
}

// Alike entries of another tree stay as they are, and cover nothing of this one.
func TestTakeKeepsToItsTree(t *testing.T) {
	b := adverts.New(0, 1, 2)
	trees := []api.ID{id(0, 0), id(1, 0), id(1, 1)}
	for _, x := range trees {
		b, _ = adverts.Learn(b, advert(x, 1))
		b, _ = subs.Add(b, entry(x, id(5, 5), 2, false, span("a", 1, 9)))
		b, _ = subs.Add(b, entry(x, id(5, 4), 2, false, span("a", 1, 2)))
	}
	for _, x := range trees {
		got, up, was := subs.Take(b, x, id(5, 5), 2)
		if !was || len(up) != 1 || up[0].Tree != x || up[0].Sub != id(5, 4) || len(got.Entries) != 5 || !subs.Tight(got) {
			t.Error(x, got, up, was)
		}
		for _, y := range trees {
			if y != x && told(subs.Of(got, y)) != told(subs.Of(b, y)) {
				t.Error(x, y, got)
			}
		}
	}
}

// P10.5

func TestTight(t *testing.T) {
	for _, q := range []struct {
		wrong   []change
		isTight bool
	}{
		{nil, true}, {[]change{{0, false}}, false}, {[]change{{5, false}}, false}, {[]change{{9, false}}, false}, {[]change{{11, false}}, false},
		{[]change{{0, false}, {5, false}, {9, false}, {11, false}}, false},
		// more that are Up than need be
		{[]change{{1, true}}, true}, {[]change{{2, true}, {3, true}, {4, true}, {10, true}}, true},
		{[]change{{1, true}, {2, true}, {3, true}, {4, true}, {10, true}, {0, false}}, false},
		{[]change{{10, true}, {9, false}}, false},
	} {
		b := full()
		for _, c := range q.wrong {
			b.Entries[c.at].Up = c.up
		}
		if !adverts.Right(b) || subs.Tight(b) != q.isTight {
			t.Error(q)
		}
	}
	if !subs.Tight(api.Broker{}) || !subs.Tight(adverts.New(0, 1, 2)) {
		t.Error("of nothing")
	}
}

// A root passes nothing on: what it has need not be covered. It is, if the
// tree comes from elsewhere.
func TestTightOfARoot(t *testing.T) {
	for _, parent := range []int{api.Local, 1} {
		b := rowOf("--", [2]int{1, 9}, [2]int{2, 3})
		b.Adverts[0].Parent = parent
		if !adverts.Right(b) || subs.Tight(b) != (parent == api.Local) {
			t.Error(parent, b)
		}
	}
	// One tree that isn't tight is enough, whichever it is.
	for loose := range 3 {
		b := adverts.New(0, 1, 2)
		for i := range 3 {
			x := id(i, 0)
			b, _ = adverts.Learn(b, advert(x, 1))
			b, _ = subs.Add(b, entry(x, id(5, 4), 2, false, span("a", 1, 9)))
			b, _ = subs.Add(b, entry(x, id(5, 5), api.Local, false, span("a", 1, 2)))
		}
		if !subs.Tight(b) {
			t.Error(b)
		}
		b.Entries[2*loose].Up = false
		if subs.Tight(b) {
			t.Error(b)
		}
	}
}

// samples is publications enough to tell the predicates of these tests apart.
func samples() [][]api.Attr {
	l := [][]api.Attr{nil}
	for n := -1; n <= 4; n++ {
		l = append(l, []api.Attr{{Name: "a", Value: value.Number(n)}}, []api.Attr{{Name: "b", Value: value.Number(n)}})
		for m := -1; m <= 4; m++ {
			l = append(l, []api.Attr{{Name: "a", Value: value.Number(n)}, {Name: "b", Value: value.Number(m)}})
		}
	}
	return l
}

// covers says whether p matches each of samples that q matches.
func covers(p, q []api.Constraint) bool {
	for _, l := range samples() {
		if rel.Match(q, l) && !rel.Match(p, l) {
			return false
		}
	}
	return true
}

// holding reckons plainly what a broker with two trees, from 1 and of its own,
// has of entries; rows stand in no order.
type holding struct {
	preds [][]api.Constraint
	wide  [][]bool // which of preds cover which
	row   []held
}

// held is one entry: of which tree, which sub, which of preds.
type held struct {
	root          bool
	sub, from, at int
	up            bool
}

func reckon(preds [][]api.Constraint) *holding {
	h := &holding{preds: preds}
	for _, p := range preds {
		var row []bool
		for _, q := range preds {
			row = append(row, covers(p, q))
		}
		h.wide = append(h.wide, row)
	}
	return h
}

func (h *holding) bare(e held) bool {
	return !slices.ContainsFunc(h.row, func(o held) bool { return o.root == e.root && o.up && h.wide[o.at][e.at] })
}

func (h *holding) find(root bool, sub int) int {
	return slices.IndexFunc(h.row, func(o held) bool { return o.root == root && o.sub == sub })
}

// add puts e in, if it may be, and says whether it is Up.
func (h *holding) add(e held) bool {
	if h.find(e.root, e.sub) >= 0 || !e.root && e.from == 1 {
		return false
	}
	e.up = !e.root && h.bare(e)
	h.row = append(h.row, e)
	return e.up
}

// take takes one out, if it may, and tells which subs became Up.
func (h *holding) take(root bool, sub, from int) (up []int, was bool) {
	at := h.find(root, sub)
	if at < 0 || h.row[at].from != from {
		return nil, false
	}
	was = h.row[at].up
	h.row = slices.Delete(slices.Clone(h.row), at, at+1)
	for n := 0; was && n < 16; n++ {
		if i := h.find(root, n); i >= 0 && !h.row[i].up && h.bare(h.row[i]) {
			h.row[i].up = true
			up = append(up, n)
		}
	}
	return up, was
}

// entries is what it comes to, in order.
func (h *holding) entries() []api.Entry {
	var l []api.Entry
	for i, root := range []bool{false, true} {
		for n := range 16 {
			if at := h.find(root, n); at >= 0 {
				o := h.row[at]
				l = append(l, entry(id(i, 0), id(9, n), o.from, o.up, h.preds[o.at]...))
			}
		}
	}
	return l
}

// start is the broker that holding reckons of.
func start() api.Broker {
	b := adverts.New(0, 1, 2, 3)
	b, _ = adverts.Learn(b, advert(id(0, 0), 1))
	b, _ = adverts.Learn(b, advert(id(1, 0), api.Local))
	return b
}

// tell is b's entries, in few words.
func tell(l []api.Entry) string {
	s := make([]byte, 0, 64)
	for _, e := range l {
		s = append(s, byte(e.Tree.Client), byte(e.Sub.Seq), byte(e.From), 0)
		if e.Up {
			s[len(s)-1] = 1
		}
		for _, c := range e.Pred {
			s = append(s, c.Name[0], byte(c.Lo), byte(c.Hi))
		}
	}
	return string(s)
}

// step does one thing to b and to h, and asks that they stay alike.
func step(t *testing.T, b api.Broker, h *holding, add bool, e held) api.Broker {
	t.Helper()
	tree := id(0, 0)
	if e.root {
		tree = id(1, 0)
	}
	if add {
		next, up := subs.Add(b, entry(tree, id(9, e.sub), e.from, !e.up, h.preds[e.at]...))
		if want := h.add(e); up != want {
			t.Fatal("add:", b, e, up)
		}
		b = next
	} else {
		next, up, was := subs.Take(b, tree, id(9, e.sub), e.from)
		wantUp, want := h.take(e.root, e.sub, e.from)
		var gotUp []int
		for _, e := range up {
			if gotUp = append(gotUp, e.Sub.Seq); !e.Up || e.Tree != tree {
				t.Fatal("take:", b, e)
			}
		}
		if was != want || !slices.Equal(gotUp, wantUp) {
			t.Fatal("take:", b, e, up, was)
		}
		b = next
	}
	if tell(b.Entries) != tell(h.entries()) || !adverts.Right(b) || !subs.Tight(b) {
		t.Fatal(b, h.row)
	}
	return b
}

// All that five steps can do with three subscriptions.
func TestFiveSteps(t *testing.T) {
	h := reckon([][]api.Constraint{list(span("a", 0, 3)), list(span("a", 1, 3)), list(span("a", 2, 3))})
	var walk func(b api.Broker, left int)
	walk = func(b api.Broker, left int) {
		if left == 0 {
			return
		}
		row := h.row
		for sub := range 3 {
			for at := range h.preds {
				h.row = slices.Clone(row)
				walk(step(t, b, h, true, held{sub: sub, from: 2, at: at}), left-1)
			}
			h.row = slices.Clone(row)
			walk(step(t, b, h, false, held{sub: sub, from: 2}), left-1)
		}
	}
	walk(start(), 5)
}

// A long way with all sorts of entries, at a root too, and with what is refused.
func TestLongWay(t *testing.T) {
	var preds [][]api.Constraint
	for lo := range 4 {
		for hi := lo; hi < 4; hi++ {
			preds = append(preds, list(span("a", lo, hi)), list(span("b", lo, hi)), list(span("a", lo, hi), span("b", 0, hi)))
		}
	}
	h := reckon(append(preds, nil))
	b, n, ups := start(), uint32(1), 0
	next := func(below int) int {
		n = n*1664525 + 1013904223
		return int(n>>16) % below
	}
	for range 20000 {
		was := b
		e := held{root: next(4) == 0, sub: next(12), from: next(4), at: next(len(h.preds)), up: next(2) == 0}
		if e.from == 0 {
			e.from = api.Local
		}
		b = step(t, b, h, next(5) > 1, e)
		for i, e := range b.Entries {
			if e.Up && i < len(was.Entries) && e.Sub == was.Entries[i].Sub && !was.Entries[i].Up {
				ups++
			}
		}
	}
	if ups < 100 {
		t.Error("hardly anything became Up:", ups)
	}
}

// The chapter's runs.
func TestRuns(t *testing.T) {
	tree, wide, slim := id(1, 0), id(2, 0), id(2, 1)
	b, _ := adverts.Learn(adverts.New(0, 1, 2), advert(tree, 1))
	b, up := subs.Add(b, entry(tree, wide, 2, false, span("a", 1, 9)))
	if !up {
		t.Error(b)
	}
	b, up = subs.Add(b, entry(tree, slim, 2, false, span("a", 2, 3)))
	if up {
		t.Error(b)
	}
	b, raised, was := subs.Take(b, tree, wide, 2)
	if !was || told(raised) != told([]api.Entry{entry(tree, slim, 2, true, span("a", 2, 3))}) || told(b.Entries) != told(raised) {
		t.Error(b, raised, was)
	}
}

// preds is where b's predicates stand, those in its spare room too.
func preds(b api.Broker) []*[]api.Constraint {
	var l []*[]api.Constraint
	for i := range b.Adverts[:cap(b.Adverts)] {
		l = append(l, &b.Adverts[:cap(b.Adverts)][i].Pred)
	}
	for i := range b.Entries[:cap(b.Entries)] {
		l = append(l, &b.Entries[:cap(b.Entries)][i].Pred)
	}
	for i := range b.Owns[:cap(b.Owns)] {
		l = append(l, &b.Owns[:cap(b.Owns)][i].Pred)
	}
	return l
}

// spoil writes over the whole of l, its spare room too.
func spoil[T any](l []T, x T) {
	l = l[:cap(l)]
	for i := range l {
		l[i] = x
	}
}

// spoilAll writes over all that b holds.
func spoilAll(b api.Broker) {
	for _, p := range preds(b) {
		spoil(*p, text("spoilt", "spoilt"))
	}
	spoil(b.Near, 77)
	spoil(b.Seen, id(77, 77))
	spoil(b.Adverts, advert(id(77, 77), 77))
	spoil(b.Entries, entry(id(77, 77), id(77, 77), 77, true))
	spoil(b.Owns, api.Own{ID: id(77, 77)})
}

// spoilEntries writes over all that l holds.
func spoilEntries(l []api.Entry) { spoilAll(api.Broker{Entries: l}) }

// roomy is full, with room behind each list, and what stands there.
func roomy() api.Broker {
	b := full()
	for _, p := range preds(b) {
		*p = append(slices.Clone(*p), text("room", "a"), text("room", "b"))[:len(*p)]
	}
	b.Near = append(b.Near, 88, 88)[:4]
	b.Seen = append(b.Seen, id(88, 0), id(88, 1))[:6]
	b.Adverts = append(b.Adverts, advert(id(88, 0), 1, text("room", "c")), advert(id(88, 1), 1))[:4]
	b.Entries = append(b.Entries, entry(second, id(88, 0), 1, true), entry(id(88, 0), id(0, 1), 1, true))[:12]
	b.Owns = append(b.Owns, api.Own{ID: id(88, 0), Pred: list(text("room", "e"))}, api.Own{ID: id(88, 1)})[:3]
	return b
}

// whole is all that stands in b's memory, in its spare room too.
func whole(b api.Broker) string {
	b.Near, b.Seen = b.Near[:cap(b.Near)], b.Seen[:cap(b.Seen)]
	b.Adverts, b.Entries, b.Owns = b.Adverts[:cap(b.Adverts)], b.Entries[:cap(b.Entries)], b.Owns[:cap(b.Owns)]
	s := told(b)
	for _, p := range preds(b) {
		s += fmt.Sprint((*p)[:cap(*p)])
	}
	return s
}

// R2, R5: what is handed in isn't changed, its spare room included, nor is that read.
func TestWhatIsHandedInStays(t *testing.T) {
	b, was := roomy(), whole(roomy())
	for _, tree := range []api.ID{{}, first, own, second, bare, id(88, 0), id(88, 1)} {
		for _, sub := range []api.ID{{}, id(0, 3), id(0, 4), id(2, 0), id(6, 0), id(7, 0), id(88, 0), id(99, 0)} {
			for _, from := range []int{api.Local, 0, 1, 4, 6} {
				p := append(list(span("a", 2, 3)), text("room", "p"))
				subs.Add(b, entry(tree, sub, from, false, p[:1]...))
				if subs.Take(b, tree, sub, from); p[0] != span("a", 2, 3) || p[1] != text("room", "p") {
					t.Error("changed:", p)
				}
			}
			subs.Find(b, tree, sub)
		}
		subs.Of(b, tree)
		subs.Covered(b, tree, nil)
	}
	if !subs.Tight(b) || whole(b) != was {
		t.Error("changed:", b)
	}
	if _, ok := subs.Find(b, second, id(88, 0)); ok || len(subs.Of(b, second)) != 3 || len(subs.Of(b, id(88, 0))) != 0 {
		t.Error("spare room is read")
	}
	if subs.Covered(b, second, nil) {
		t.Error("spare room covers")
	}
	if got, up := subs.Add(b, entry(id(88, 0), id(0, 0), 0, false)); up || told(got) != told(full()) {
		t.Error("spare room has a tree")
	}
	if got, up := subs.Add(b, entry(second, id(88, 0), 0, false)); !up || len(got.Entries) != 13 {
		t.Error("spare room has an entry", got)
	}
	// Behind what is taken back there may stand what isn't there.
	if got, up, was := subs.Take(b, second, id(7, 0), api.Local); !was || len(up) > 0 || len(got.Entries) != 11 || len(subs.Of(got, second)) != 2 {
		t.Error(got, up, was)
	}
}

// R2: nothing of what was handed in is kept, and an answer is new memory.
func TestAnswersAreNew(t *testing.T) {
	for i, call := range []func(b api.Broker, p []api.Constraint) (api.Broker, []api.Entry){
		func(b api.Broker, p []api.Constraint) (api.Broker, []api.Entry) {
			b, _ = subs.Add(b, entry(first, id(1, 0), 6, false, p...))
			return b, nil
		},
		func(b api.Broker, p []api.Constraint) (api.Broker, []api.Entry) {
			b, _ = subs.Add(b, entry(second, id(99, 0), 6, false, p...))
			return b, nil
		},
		func(b api.Broker, p []api.Constraint) (api.Broker, []api.Entry) {
			b, up, _ := subs.Take(b, first, id(0, 3), 0)
			return b, up
		},
		func(b api.Broker, p []api.Constraint) (api.Broker, []api.Entry) {
			b, up, _ := subs.Take(b, first, id(0, 4), 4)
			return b, up
		},
		func(b api.Broker, p []api.Constraint) (api.Broker, []api.Entry) {
			b, up, _ := subs.Take(b, second, id(7, 0), api.Local)
			return b, up
		},
		func(b api.Broker, p []api.Constraint) (api.Broker, []api.Entry) {
			e, _ := subs.Find(b, first, id(5, 5))
			return api.Broker{}, []api.Entry{e}
		},
		func(b api.Broker, p []api.Constraint) (api.Broker, []api.Entry) {
			return api.Broker{}, subs.Of(b, first)
		},
		func(b api.Broker, p []api.Constraint) (api.Broker, []api.Entry) {
			return api.Broker{}, subs.Of(b, second)
		},
	} {
		some := func() []api.Constraint { return append(list(span("a", 0, 1)), text("room", "r"))[:1] }
		b, p := roomy(), some()
		got, up := call(b, p)
		want, wantUp := told(got), told(up)
		spoilAll(b)
		if spoil(p, text("spoilt", "spoilt")); told(got) != want || told(up) != wantUp {
			t.Error(i, "kept:", got, up)
		}
		if spoilEntries(up); told(got) != want {
			t.Error(i, "two lists share:", got)
		}
		b, p = roomy(), some()
		got, up = call(b, p)
		if spoilAll(got); told(up) != wantUp {
			t.Error(i, "two lists share:", up)
		}
		if spoilEntries(up); whole(b) != whole(roomy()) || p[0] != span("a", 0, 1) || p[:2][1] != text("room", "r") {
			t.Error(i, "shared:", b, p)
		}
	}
}

// R2: no two of one answer share any.
func TestEntriesApart(t *testing.T) {
	b := roomy()
	l := subs.Of(b, first)
	for i := range l {
		spoil(l[i].Pred, text("spoilt", "spoilt"))
		if rest := l[i+1:]; told(rest) != told(full().Entries[i+1:6]) {
			t.Error(i, rest)
		}
	}
	_, up, _ := subs.Take(b, first, id(0, 3), 0)
	if spoil(up[0].Pred, text("spoilt", "spoilt")); told(up[1].Pred) != told(full().Entries[2].Pred) {
		t.Error(up)
	}
}

// What is made from one broker twice doesn't meet, whatever is done to either.
func TestTwoOfOne(t *testing.T) {
	b := full()
	one, _ := subs.Add(b, entry(bare, id(3, 0), 1, false))
	other, _ := subs.Add(b, entry(bare, id(3, 1), 4, false))
	gone, _, _ := subs.Take(one, bare, id(3, 0), 1)
	if len(subs.Of(one, bare)) != 1 || len(subs.Of(other, bare)) != 1 || !adverts.Same(gone, b) || told(b) != told(full()) {
		t.Error(one, other, gone)
	}
}

// R4: nil and empty lists mean the same.
func TestNilAndEmpty(t *testing.T) {
	none := api.Broker{Near: []int{}, Adverts: []api.Advert{}, Seen: []api.ID{}, Entries: []api.Entry{}, Owns: []api.Own{}}
	if !subs.Tight(none) || len(subs.Of(none, api.ID{})) > 0 || subs.Covered(none, api.ID{}, nil) {
		t.Error("of nothing")
	}
	a, b := start(), start()
	a.Entries, b.Entries = nil, []api.Entry{}
	a, up := subs.Add(a, entry(id(0, 0), id(9, 0), 2, false))
	b, too := subs.Add(b, entry(id(0, 0), id(9, 0), 2, false, list()...))
	if !up || !too || !adverts.Same(a, b) || !subs.Covered(a, id(0, 0), nil) || !subs.Covered(a, id(0, 0), list()) {
		t.Error(a, b)
	}
	a, up = subs.Add(a, api.Entry{Tree: id(0, 0), Sub: id(9, 1), From: 2, Pred: nil})
	b, too = subs.Add(b, api.Entry{Tree: id(0, 0), Sub: id(9, 1), From: 2, Pred: make([]api.Constraint, 0, 4)})
	if up || too || !adverts.Same(a, b) {
		t.Error(a, b)
	}
	a, l, was := subs.Take(a, id(0, 0), id(9, 0), 2)
	b, m, too := subs.Take(b, id(0, 0), id(9, 0), 2)
	if !was || !too || told(l) != told(m) || len(l) != 1 || !adverts.Same(a, b) {
		t.Error(a, b)
	}
}

// crooked is brokers that are not right.
func crooked() []api.Broker {
	var l []api.Broker
	for _, do := range []func(b *api.Broker){
		func(b *api.Broker) { slices.Reverse(b.Entries) },
		func(b *api.Broker) { slices.Reverse(b.Adverts) },
		func(b *api.Broker) { b.Entries[0], b.Entries[11] = b.Entries[11], b.Entries[0] },
		func(b *api.Broker) { b.Entries[3], b.Entries[8] = b.Entries[8], b.Entries[3] },
		func(b *api.Broker) { b.Entries = append(b.Entries, b.Entries...) },
		func(b *api.Broker) { b.Entries = slices.Concat(b.Entries[6:], b.Entries[:6], b.Entries[2:9]) },
		func(b *api.Broker) { b.Adverts = append(b.Adverts, b.Adverts...) },
		func(b *api.Broker) { b.Adverts = nil },
		func(b *api.Broker) { b.Seen, b.Near = nil, nil },
		func(b *api.Broker) { b.Adverts[1].Parent = 0 },
		func(b *api.Broker) { b.Entries[6].Up, b.Entries[7].Up = true, true },
		func(b *api.Broker) {
			for i := range b.Entries {
				b.Entries[i].From = b.Adverts[0].Parent
			}
		},
		func(b *api.Broker) {
			for i := range b.Entries {
				b.Entries[i].Pred = list(api.Constraint{}, span("", 3, 1), span("a", 2, 1), span("a", 1, 2), begin("a", "abcdefghijklmnop"), api.Constraint{Name: "a", Kind: 99})
			}
		},
	} {
		b := full()
		do(&b)
		l = append(l, b)
	}
	return l
}

// R1: whatever is given, every call ends, and none panics.
func TestOfWhateverEnds(t *testing.T) {
	wrong := [][]api.Constraint{nil, {{}}, {span("a", 2, 1)}, {span("a", 1, 9), span("a", 1, 9)}, {begin("\x00", "\xff")}, {{Name: "b", Kind: -1, Lo: 3, Text: "q"}}}
	for _, b := range append(crooked(), full(), api.Broker{}) {
		for _, n := range odd() {
			for _, x := range []api.ID{id(n, 0), id(0, n), id(n, n), first, own, second, bare, id(0, 3), id(0, 4)} {
				for _, tree := range []api.ID{first, own, second, x} {
					for _, p := range wrong {
						got, _ := subs.Add(b, entry(tree, x, n, true, p...))
						subs.Covered(got, tree, p)
						subs.Tight(got)
					}
					got, up, was := subs.Take(b, tree, x, n)
					if len(up) > 0 && !was {
						t.Error(b, tree, x, n)
					}
					subs.Tight(got)
					subs.Find(b, tree, x)
				}
				subs.Of(b, x)
			}
		}
	}
}

// What isn't right but stands in place is kept as it is told: only what the
// chapter names is refused.
func TestAddLooksNoFurther(t *testing.T) {
	for _, e := range []api.Entry{
		entry(first, id(-1, math.MaxInt), 99, true, span("A", 2, 1)),
		entry(first, id(8, 8), -7, true, text("q", "q"), text("p", "p")),
		entry(first, id(8, 8), 3, true, api.Constraint{}),
	} {
		b, up := subs.Add(full(), e)
		if got, ok := subs.Find(b, e.Tree, e.Sub); !up || !ok || told(got) != told(e) || len(b.Entries) != 13 {
			t.Error(e, b, up)
		}
	}
}

func TestLongRows(t *testing.T) {
	const trees, long = 1 << 7, 1 << 9
	b := api.Broker{Near: []int{1, 2}}
	for i := range trees {
		x := id(i, 0)
		b.Seen, b.Adverts = append(b.Seen, x), append(b.Adverts, advert(x, 1))
		for n := range long {
			b.Entries = append(b.Entries, entry(x, id(0, n), 2, n == long/2, span("a", n%7, n%7)))
		}
		b.Entries[i*long+long/2].Pred = list(span("a", 0, 6))
	}
	if !adverts.Right(b) || !subs.Tight(b) {
		t.Fatal("a long broker")
	}
	for _, tree := range []int{0, 1, trees / 2, trees - 1} {
		x := id(tree, 0)
		if l := subs.Of(b, x); len(l) != long || l[0].Tree != x || l[long-1].Sub != id(0, long-1) {
			t.Error("of", tree)
		}
		if e, ok := subs.Find(b, x, id(0, long-1)); !ok || e.Tree != x {
			t.Error("find", tree)
		}
		got, up, was := subs.Take(b, x, id(0, long/2), 2)
		if !was || len(up) != 7 || up[6].Sub != id(0, 6) || !adverts.Right(got) || !subs.Tight(got) || len(got.Entries) != trees*long-1 {
			t.Error("taken", tree, len(up), was)
		}
		got, is := subs.Add(got, entry(x, id(0, long/2), 2, false, span("a", 0, 6)))
		if !is || !adverts.Right(got) || !subs.Tight(got) || len(got.Entries) != trees*long {
			t.Error("added", tree, is)
		}
	}
}
