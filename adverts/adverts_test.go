package adverts_test

import (
	"fmt"
	"math"
	"slices"
	"testing"

	"broadside/adverts"
	"broadside/api"
)

func id(client, seq int) api.ID { return api.ID{Client: client, Seq: seq} }

func list(l ...api.Constraint) []api.Constraint { return l }

func span(name string, lo, hi int) api.Constraint {
	return api.Constraint{Name: name, Kind: api.CRange, Lo: lo, Hi: hi}
}

func text(name, s string) api.Constraint {
	return api.Constraint{Name: name, Kind: api.CText, Text: s}
}

func advert(x api.ID, parent int, l ...api.Constraint) api.Advert {
	return api.Advert{ID: x, Pred: l, Parent: parent}
}

func entry(tree, sub api.ID, from int, up bool, l ...api.Constraint) api.Entry {
	return api.Entry{Tree: tree, Sub: sub, Pred: l, From: from, Up: up}
}

// told is all that is in b; nil and empty lists are told the same.
func told(b api.Broker) string { return fmt.Sprintf("%+v", b) }

// twin is b in other memory.
func twin(b api.Broker) api.Broker {
	b.Near, b.Seen = slices.Clone(b.Near), slices.Clone(b.Seen)
	b.Adverts, b.Entries, b.Owns = slices.Clone(b.Adverts), slices.Clone(b.Entries), slices.Clone(b.Owns)
	for _, p := range preds(b) {
		*p = slices.Clone(*p)
	}
	return b
}

// preds is where b's predicates stand, those in its spare room too.
func preds(b api.Broker) []*[]api.Constraint {
	var l []*[]api.Constraint
	for i := range b.Adverts[:cap(b.Adverts)] {
		l = append(l, &b.Adverts[:cap(b.Adverts)][i].Pred)
	}
	for i := range b.Entries[:cap(b.Entries)] {
		l = append(l, &b.Entries[:cap(b.Entries)][i].Pred)
	}
	for i := range b.Owns[:cap(b.Owns)] {
		l = append(l, &b.Owns[:cap(b.Owns)][i].Pred)
	}
	return l
}

// spoil writes over the whole of l, its spare room too.
func spoil[T any](l []T, x T) {
	l = l[:cap(l)]
	for i := range l {
		l[i] = x
	}
}

// spoilAll writes over all that b holds.
func spoilAll(b api.Broker) {
	for _, p := range preds(b) {
		spoil(*p, text("spoilt", "spoilt"))
	}
	spoil(b.Near, 77)
	spoil(b.Seen, id(77, 77))
	spoil(b.Adverts, advert(id(77, 77), 77))
	spoil(b.Entries, entry(id(77, 77), id(77, 77), 77, true))
	spoil(b.Owns, api.Own{ID: id(77, 77)})
}

// full is a right broker with some of everything.
func full() api.Broker {
	return api.Broker{
		Me:   3,
		Near: []int{0, 1, 4},
		Adverts: []api.Advert{
			advert(id(1, 2), 1, span("a", 1, 9), text("b", "x")),
			advert(id(1, 5), api.Local, span("a", 0, 0)),
			advert(id(2, 0), 4),
		},
		Seen: []api.ID{id(0, 7), id(1, 2), id(1, 3), id(1, 5), id(2, 0), id(4, 0)},
		Entries: []api.Entry{
			entry(id(1, 2), id(0, 3), 0, true, span("a", 2, 3)),
			entry(id(1, 2), id(0, 4), 4, false, text("b", "x")),
			entry(id(1, 2), id(6, 0), api.Local, true),
			entry(id(1, 5), id(0, 3), 0, false, span("a", 0, 3)),
			entry(id(1, 5), id(6, 0), api.Local, false),
			entry(id(2, 0), id(0, 3), 0, false, span("a", 2, 3)),
			entry(id(2, 0), id(5, 0), 1, true, span("c", 1, 1)),
		},
		Owns: []api.Own{{ID: id(6, 0)}, {ID: id(6, 2), Pred: list(text("z", "q"))}, {ID: id(7, 1), Pred: list(span("a", 5, 6))}},
	}
}

// odd is numbers of all sizes.
func odd() []int {
	return []int{math.MinInt, math.MinInt + 1, -2, -1, 0, 1, 2, 63, 64, math.MaxInt - 1, math.MaxInt}
}

// P9.1

func TestNew(t *testing.T) {
	lists := [][]int{nil}
	for from := 0; from < len(lists); from++ {
		near := lists[from]
		var want []int
		for n := -1; n <= 2; n++ {
			if slices.Contains(near, n) {
				want = append(want, n)
			}
		}
		for _, me := range []int{0, 1, api.Local, math.MinInt, math.MaxInt} {
			b := adverts.New(me, near...)
			if b.Me != me || !slices.Equal(b.Near, want) || len(b.Adverts)+len(b.Seen)+len(b.Entries)+len(b.Owns) > 0 || !adverts.Right(b) {
				t.Error(me, near, b)
			}
		}
		for n := -1; n <= 2 && len(near) < 4; n++ {
			lists = append(lists, append(slices.Clone(near), n))
		}
	}
	if b := adverts.New(3, 5, 1, 5, 0); told(b) != told(api.Broker{Me: 3, Near: []int{0, 1, 5}}) {
		t.Error(b)
	}
	if b := adverts.New(0, math.MaxInt, 0, math.MinInt, math.MaxInt); !slices.Equal(b.Near, []int{math.MinInt, 0, math.MaxInt}) {
		t.Error(b)
	}
}

func TestLess(t *testing.T) {
	var rising []api.ID
	for _, client := range odd() {
		for _, seq := range odd() {
			rising = append(rising, id(client, seq))
		}
	}
	for i, a := range rising {
		for j, b := range rising {
			if adverts.Less(a, b) != (i < j) {
				t.Error(a, b)
			}
		}
	}
}

func TestFind(t *testing.T) {
	b := full()
	for _, a := range full().Adverts {
		if got, ok := adverts.Find(b, a.ID); !ok || fmt.Sprint(got) != fmt.Sprint(a) {
			t.Error(a, got, ok)
		}
	}
	// One that was seen, one whose subscription there is, and ones beside those that there are.
	for _, x := range []api.ID{{}, id(1, 3), id(0, 7), id(4, 0), id(6, 0), id(1, 1), id(1, 6), id(2, 1), id(2, -1), id(5, 1), id(math.MinInt, 0), id(math.MaxInt, 0)} {
		if got, ok := adverts.Find(b, x); ok || got.ID != (api.ID{}) || got.Pred != nil || got.Parent != 0 {
			t.Error(x, got, ok)
		}
	}
	if _, ok := adverts.Find(api.Broker{}, api.ID{}); ok {
		t.Error("found in nothing")
	}
	// Whichever way the rows stand.
	slices.Reverse(b.Adverts)
	for _, a := range full().Adverts {
		if got, ok := adverts.Find(b, a.ID); !ok || got.Parent != a.Parent {
			t.Error(a, got, ok)
		}
	}
}

func TestSeen(t *testing.T) {
	b := full()
	for range 2 {
		for client := -1; client < 9; client++ {
			for seq := -1; seq < 9; seq++ {
				x := id(client, seq)
				if adverts.Seen(b, x) != slices.Contains(full().Seen, x) {
					t.Error(x)
				}
			}
		}
		slices.Reverse(b.Seen)
	}
	// Seen tells, not what is known.
	b.Seen = nil
	if adverts.Seen(b, id(1, 2)) || adverts.Seen(api.Broker{}, api.ID{}) {
		t.Error("seen")
	}
}

// P9.2

// orders is all orders of n things.
func orders(n int) [][]int {
	l := [][]int{nil}
	for k := range n {
		var more [][]int
		for _, o := range l {
			for at := range len(o) + 1 {
				more = append(more, slices.Insert(slices.Clone(o), at, k))
			}
		}
		l = more
	}
	return l
}

func TestLearnInAnyOrder(t *testing.T) {
	all := []api.Advert{
		advert(id(math.MinInt, 3), 0, span("a", 1, 1)), advert(id(0, 9), api.Local), advert(id(1, -1), 4, text("b", "x")),
		advert(id(1, 0), 1, span("a", 1, 2), span("b", 3, 4)), advert(id(1, 2), 4), advert(id(math.MaxInt, 0), 1, text("c", "")),
	}
	want := adverts.New(2, 0, 1, 4)
	for _, a := range all {
		want.Adverts, want.Seen = append(want.Adverts, a), append(want.Seen, a.ID)
	}
	for _, o := range orders(len(all)) {
		b := adverts.New(2, 4, 1, 0)
		for _, k := range o {
			next, ok := adverts.Learn(b, all[k])
			if !ok || adverts.Seen(b, all[k].ID) || !adverts.Right(next) {
				t.Error(o, next, ok)
			}
			b = next
		}
		if told(b) != told(want) {
			t.Error(o, b)
		}
	}
}

func TestLearnLeavesTheRest(t *testing.T) {
	a := advert(id(1, 4), 4, span("a", 5, 6), text("b", "y"))
	want := full()
	want.Adverts = slices.Insert(want.Adverts, 1, a)
	want.Seen = slices.Insert(want.Seen, 3, a.ID)
	b, ok := adverts.Learn(full(), a)
	if !ok || told(b) != told(want) {
		t.Error(b, ok)
	}
}

func TestLearnOncePassesOver(t *testing.T) {
	b := full()
	// What is known, and what was forgotten: from wherever, with whatever predicate.
	for _, x := range full().Seen {
		for _, parent := range []int{api.Local, 0, 1, 4, 9} {
			for _, l := range [][]api.Constraint{nil, list(span("a", 1, 9)), list(text("q", "q"))} {
				if got, ok := adverts.Learn(b, advert(x, parent, l...)); ok || told(got) != told(full()) {
					t.Error(x, parent, got, ok)
				}
			}
		}
	}
}

// Whether it is Seen decides, and nothing else.
func TestLearnAsksSeenAlone(t *testing.T) {
	for _, a := range []api.Advert{
		advert(id(-1, -1), 99), advert(id(math.MaxInt, math.MinInt), -7, span("A", 2, 1)), advert(id(9, 0), 2, api.Constraint{}, api.Constraint{}),
	} {
		b, ok := adverts.Learn(full(), a)
		got, found := adverts.Find(b, a.ID)
		if !ok || !found || fmt.Sprint(got) != fmt.Sprint(a) || len(b.Adverts) != 4 || len(b.Seen) != 7 {
			t.Error(a, b, ok)
		}
	}
}

// P9.3

func TestForget(t *testing.T) {
	for i, a := range full().Adverts {
		want := full()
		want.Adverts = slices.Delete(want.Adverts, i, i+1)
		want.Entries = nil
		for _, e := range full().Entries {
			if e.Tree != a.ID {
				want.Entries = append(want.Entries, e)
			}
		}
		b, ok := adverts.Forget(full(), a.ID, a.Parent)
		if !ok || told(b) != told(want) || !adverts.Right(b) || !adverts.Seen(b, a.ID) {
			t.Error(a, b, ok)
		}
		if again, ok := adverts.Forget(b, a.ID, a.Parent); ok || told(again) != told(want) {
			t.Error(a, again, ok)
		}
		if again, ok := adverts.Learn(b, a); ok || told(again) != told(want) {
			t.Error(a, again, ok)
		}
	}
}

func TestForgetWantsTheParent(t *testing.T) {
	for _, a := range full().Adverts {
		for _, from := range append(odd(), 3, 4, 9) {
			if from == a.Parent {
				continue
			}
			if b, ok := adverts.Forget(full(), a.ID, from); ok || told(b) != told(full()) {
				t.Error(a, from, b, ok)
			}
		}
	}
}

func TestForgetWantsOneThatIsKnown(t *testing.T) {
	for _, x := range []api.ID{{}, id(0, 7), id(1, 3), id(4, 0), id(6, 0), id(1, 1), id(2, 1), id(math.MaxInt, 0)} {
		for _, from := range []int{api.Local, 0, 1, 3, 4, 9} {
			if b, ok := adverts.Forget(full(), x, from); ok || told(b) != told(full()) {
				t.Error(x, from, b, ok)
			}
			if b, ok := adverts.Forget(adverts.New(3, 1), x, from); ok || told(b) != told(adverts.New(3, 1)) {
				t.Error(x, from, b, ok)
			}
		}
	}
}

// The last one goes, and all of its entries: nothing is left but that it was seen.
func TestForgetTheLast(t *testing.T) {
	b, _ := adverts.Learn(adverts.New(0, 1), advert(id(2, 2), 1))
	b.Entries = []api.Entry{entry(id(2, 2), id(0, 0), api.Local, true), entry(id(2, 2), id(0, 1), api.Local, false)}
	b, ok := adverts.Forget(b, id(2, 2), 1)
	if !ok || told(b) != told(api.Broker{Near: []int{1}, Seen: []api.ID{id(2, 2)}}) || !adverts.Right(b) {
		t.Error(b, ok)
	}
}

// known is a plain reckoning of what a broker holds.
type known struct {
	parent map[api.ID]int
	seen   map[api.ID]int
}

// holds asks that b be right, and hold just that.
func (k known) holds(t *testing.T, b api.Broker, ids []api.ID) {
	t.Helper()
	if !adverts.Right(b) || len(b.Adverts) != len(k.parent) || len(b.Seen) != len(k.seen) {
		t.Fatal(b, k)
	}
	for _, x := range ids {
		a, ok := adverts.Find(b, x)
		parent, there := k.parent[x]
		if ok != there || ok && (a.ID != x || a.Parent != parent) || adverts.Seen(b, x) != (k.seen[x] > 0) {
			t.Fatal(b, k, x)
		}
	}
}

// All that four steps can do with three advertisements that come from three.
func TestFourSteps(t *testing.T) {
	ids, from := []api.ID{id(1, 0), id(0, 4), id(1, 3)}, []int{api.Local, 0, 2}
	kinds := 2 * len(ids) * len(from)
	for all := range kinds * kinds * kinds * kinds {
		b := adverts.New(1, 0, 2)
		k := known{map[api.ID]int{}, map[api.ID]int{}}
		for rest, n := all, 0; n < 4; rest, n = rest/kinds, n+1 {
			x, f := ids[rest%len(ids)], from[rest/len(ids)%len(from)]
			was, ok, want := b, false, false
			if rest%kinds < kinds/2 {
				b, ok = adverts.Learn(b, advert(x, f))
				if want = k.seen[x] == 0; want {
					k.parent[x], k.seen[x] = f, 1
				}
			} else {
				b, ok = adverts.Forget(b, x, f)
				parent, there := k.parent[x]
				if want = there && parent == f; want {
					delete(k.parent, x)
				}
			}
			if ok != want || adverts.Same(b, was) == ok {
				t.Fatal(all, n, b, ok)
			}
			k.holds(t, b, ids)
		}
	}
}

// P9.4

// change is a thing to do to a broker, in place.
type change func(b *api.Broker)

// wrongs is changes that make full wrong, each by one thing.
func wrongs() []change {
	most := list(span("a", 1, 1), span("b", 1, 1), span("c", 1, 1), span("d", 1, 1), span("e", 1, 1), span("f", 1, 1))
	l := []change{
		// rows that don't rise
		func(b *api.Broker) { b.Near = []int{1, 0, 4} },
		func(b *api.Broker) { b.Near = []int{0, 1, 1, 4} },
		func(b *api.Broker) { b.Near = []int{0, 1, 4, 4} },
		func(b *api.Broker) { b.Near = []int{0, 1, 4, math.MinInt} },
		func(b *api.Broker) { b.Adverts[0], b.Adverts[1] = b.Adverts[1], b.Adverts[0] },
		func(b *api.Broker) { b.Adverts[1], b.Adverts[2] = b.Adverts[2], b.Adverts[1] },
		func(b *api.Broker) { b.Adverts = append(b.Adverts, b.Adverts[2]) },
		func(b *api.Broker) { b.Adverts = slices.Insert(b.Adverts, 0, b.Adverts[0]) },
		func(b *api.Broker) { b.Seen[0], b.Seen[1] = b.Seen[1], b.Seen[0] },
		func(b *api.Broker) { b.Seen = append(b.Seen, b.Seen[5]) },
		func(b *api.Broker) { b.Seen = append(b.Seen, id(4, -1)) },
		func(b *api.Broker) { b.Seen = append(b.Seen, id(math.MinInt, 0)) },
		func(b *api.Broker) { b.Owns[0].ID = id(6, 2) },
		func(b *api.Broker) { b.Owns[2].ID = id(6, 1) },
		func(b *api.Broker) { b.Owns[2].ID = id(5, 9) },
		func(b *api.Broker) { b.Entries[0], b.Entries[1] = b.Entries[1], b.Entries[0] },
		func(b *api.Broker) { b.Entries[1].Sub = id(0, 3) },
		func(b *api.Broker) { b.Entries[1].Sub = id(0, 2) },
		func(b *api.Broker) { b.Entries[2], b.Entries[3] = b.Entries[3], b.Entries[2] },
		func(b *api.Broker) { b.Entries = append(b.Entries, b.Entries[6]) },
		// advertisements that weren't seen
		func(b *api.Broker) { b.Seen = slices.Delete(b.Seen, 1, 2) },
		func(b *api.Broker) { b.Seen = slices.Delete(b.Seen, 3, 4) },
		func(b *api.Broker) { b.Seen = b.Seen[:4] },
		func(b *api.Broker) { b.Seen = nil },
		// trees that there are not
		func(b *api.Broker) { b.Adverts = b.Adverts[1:] },
		func(b *api.Broker) { b.Adverts = b.Adverts[:2] },
		func(b *api.Broker) { b.Adverts = slices.Delete(b.Adverts, 1, 2) },
		func(b *api.Broker) { b.Entries[0].Tree = id(1, 1) },
		func(b *api.Broker) { b.Entries[0].Tree = id(0, 7) },
		func(b *api.Broker) { b.Entries[6].Tree = id(4, 0) },
		func(b *api.Broker) { b.Entries[2].Tree = id(1, 3) },
		func(b *api.Broker) { b.Entries[3].Tree = id(1, 4) },
		// what comes from nobody near
		func(b *api.Broker) { b.Near = b.Near[1:] },
		func(b *api.Broker) { b.Near = b.Near[:2] },
		func(b *api.Broker) { b.Near = []int{0, 4} },
		// what came from the parent, or was passed on above a root
		func(b *api.Broker) { b.Entries[0].From = 1 },
		func(b *api.Broker) { b.Entries[1].From = 1 },
		func(b *api.Broker) { b.Entries[2].From = 1 },
		func(b *api.Broker) { b.Entries[5].From = 4 },
		func(b *api.Broker) { b.Adverts[0].Parent = 0 },
		func(b *api.Broker) { b.Adverts[0].Parent = 4 },
		func(b *api.Broker) { b.Adverts[0].Parent = api.Local },
		func(b *api.Broker) { b.Adverts[1].Parent = 0 },
		func(b *api.Broker) { b.Entries[3].Up = true },
		func(b *api.Broker) { b.Entries[4].Up = true },
	}
	for _, p := range [][]api.Constraint{
		{{}}, {span("a", 2, 1)}, {span("a1", 1, 2)}, {span("a", 1, 2), span("a", 1, 2)}, {span("b", 1, 2), span("a", 1, 2)}, most, {text("a", "abcdefghijklm")},
	} {
		for i := range full().Adverts {
			l = append(l, func(b *api.Broker) { b.Adverts[i].Pred = p })
		}
		for i := range full().Entries {
			l = append(l, func(b *api.Broker) { b.Entries[i].Pred = p })
		}
		for i := range full().Owns {
			l = append(l, func(b *api.Broker) { b.Owns[i].Pred = p })
		}
	}
	for _, link := range []int{2, 3, 5, -2, math.MinInt, math.MaxInt} {
		for i := range full().Adverts {
			l = append(l, func(b *api.Broker) { b.Adverts[i].Parent = link })
		}
		for i := range full().Entries {
			l = append(l, func(b *api.Broker) { b.Entries[i].From = link })
		}
	}
	return l
}

// rights is changes that leave full right.
func rights() []change {
	return []change{
		func(b *api.Broker) { b.Me = 0 },
		func(b *api.Broker) { b.Me = math.MinInt },
		func(b *api.Broker) { b.Near = []int{-5, 0, 1, 4, 99} },
		func(b *api.Broker) { b.Seen = slices.Insert(b.Seen, 0, id(math.MinInt, math.MaxInt)) },
		func(b *api.Broker) { b.Seen = append(b.Seen, id(math.MaxInt, 0)) },
		func(b *api.Broker) { b.Seen = b.Seen[1:5] },
		func(b *api.Broker) { b.Entries[2].From = 0 },
		func(b *api.Broker) { b.Entries[2].Up = false },
		func(b *api.Broker) { b.Entries[1].Up = true },
		func(b *api.Broker) { b.Entries[3].From = 4 },
		func(b *api.Broker) { b.Entries[3].From = api.Local },
		func(b *api.Broker) { b.Entries[0].Tree, b.Entries[0].Sub = id(1, 2), id(-1, math.MaxInt) },
		func(b *api.Broker) { b.Entries[5].Tree, b.Entries[5].Sub = id(1, 5), id(6, 1) },
		func(b *api.Broker) {
			b.Entries[2].Tree = id(1, 5)
			b.Entries[2].Sub = id(0, 0)
			b.Entries[2].Up = false
		},
		func(b *api.Broker) { b.Adverts[1].Parent = 1 },
		func(b *api.Broker) { b.Adverts[1].Parent = 4 },
		func(b *api.Broker) { b.Adverts[2].Pred = list(text("a", "x"), span("b", 1, 1)) },
		func(b *api.Broker) { b.Entries = nil },
		func(b *api.Broker) { b.Entries = b.Entries[3:] },
		func(b *api.Broker) { b.Owns = nil },
		func(b *api.Broker) { b.Owns[2].Pred = list(text("z", "zz")) },
		func(b *api.Broker) { b.Owns[0].ID = id(-6, 9) },
	}
}

func TestRight(t *testing.T) {
	if !adverts.Right(full()) || !adverts.Right(api.Broker{}) {
		t.Fatal("right ones")
	}
	for i, do := range wrongs() {
		b := full()
		if do(&b); adverts.Right(b) {
			t.Error("wrong", i, b)
		}
	}
	for i, do := range rights() {
		b := full()
		if do(&b); !adverts.Right(b) {
			t.Error("right", i, b)
		}
	}
}

// One that is alone is held to the same.
func TestRightOfFewRows(t *testing.T) {
	x := id(1, 1)
	one := func(parent int, e ...api.Entry) api.Broker {
		return api.Broker{Near: []int{2, 5}, Adverts: []api.Advert{advert(x, parent)}, Seen: []api.ID{x}, Entries: e}
	}
	for i, q := range []struct {
		b  api.Broker
		ok bool
	}{
		{one(2), true}, {one(5), true}, {one(api.Local), true}, {one(3), false}, {one(0), false},
		{api.Broker{Adverts: []api.Advert{advert(x, api.Local)}}, false},
		{api.Broker{Adverts: []api.Advert{advert(x, api.Local)}, Seen: []api.ID{id(1, 2)}}, false},
		{api.Broker{Adverts: []api.Advert{advert(x, api.Local)}, Seen: []api.ID{x}}, true},
		{api.Broker{Seen: []api.ID{x}}, true},
		{api.Broker{Entries: []api.Entry{entry(x, x, api.Local, false)}, Seen: []api.ID{x}}, false},
		{one(2, entry(x, x, 2, false)), false}, {one(2, entry(x, x, 2, true)), false},
		{one(2, entry(x, x, 5, false)), true}, {one(2, entry(x, x, 5, true)), true},
		{one(2, entry(x, x, api.Local, false)), true}, {one(2, entry(x, x, api.Local, true)), true},
		{one(api.Local, entry(x, x, api.Local, false)), true}, {one(api.Local, entry(x, x, api.Local, true)), false},
		{one(api.Local, entry(x, x, 2, false)), true}, {one(api.Local, entry(x, x, 2, true)), false},
		{one(api.Local, entry(x, x, 7, false)), false}, {one(api.Local, entry(x, x, -2, false)), false},
		{one(2, entry(id(1, 2), x, 5, false)), false}, {one(2, entry(id(0, 1), x, 5, false)), false},
	} {
		if adverts.Right(q.b) != q.ok {
			t.Error(i, q.b)
		}
	}
}

// others is all of wrongs and rights, done to full.
func others() []api.Broker {
	var l []api.Broker
	for _, do := range append(wrongs(), rights()...) {
		b := full()
		do(&b)
		l = append(l, b)
	}
	return l
}

func TestSame(t *testing.T) {
	all := append(others(), full(), api.Broker{}, adverts.New(3, 0, 1, 4))
	for i, a := range all {
		for j, b := range all {
			if adverts.Same(a, twin(b)) != (told(a) == told(b)) {
				t.Error(i, j, a, b)
			}
		}
	}
}

// All that is in a broker counts, each by itself.
func TestSameAsksAll(t *testing.T) {
	for i, do := range []change{
		func(b *api.Broker) { b.Me = 4 },
		func(b *api.Broker) { b.Near[2] = 5 },
		func(b *api.Broker) { b.Near = b.Near[:2] },
		func(b *api.Broker) { b.Adverts[0].ID.Client = 0 },
		func(b *api.Broker) { b.Adverts[2].ID.Seq = 1 },
		func(b *api.Broker) { b.Adverts[1].Parent = 0 },
		func(b *api.Broker) { b.Adverts[0].Pred[1].Text = "y" },
		func(b *api.Broker) { b.Adverts[0].Pred = nil },
		func(b *api.Broker) { b.Adverts = b.Adverts[:2] },
		func(b *api.Broker) { b.Seen[5].Seq = 1 },
		func(b *api.Broker) { b.Seen = append(b.Seen, id(5, 0)) },
		func(b *api.Broker) { b.Entries[0].Tree.Seq = 1 },
		func(b *api.Broker) { b.Entries[0].Sub.Seq = 2 },
		func(b *api.Broker) { b.Entries[6].From = 0 },
		func(b *api.Broker) { b.Entries[6].Up = false },
		func(b *api.Broker) { b.Entries[0].Pred[0].Lo = 1 },
		func(b *api.Broker) { b.Entries[6].Pred = append(b.Entries[6].Pred, span("d", 1, 1)) },
		func(b *api.Broker) { b.Entries = b.Entries[:6] },
		func(b *api.Broker) { b.Owns[2].ID.Seq = 2 },
		func(b *api.Broker) { b.Owns[1].Pred[0].Name = "y" },
		func(b *api.Broker) { b.Owns[1].Pred = nil },
		func(b *api.Broker) { b.Owns = b.Owns[1:] },
	} {
		b := full()
		if do(&b); adverts.Same(b, full()) || adverts.Same(full(), b) {
			t.Error(i, b)
		}
	}
	if !adverts.Same(full(), full()) {
		t.Error("not the same")
	}
}

// The chapter's runs.
func TestRuns(t *testing.T) {
	b, ok := adverts.Learn(adverts.New(0, 1, 2), advert(id(1, 0), 1))
	if !ok {
		t.Error(b)
	}
	if again, ok := adverts.Learn(b, advert(id(1, 0), 2)); ok || !adverts.Same(again, b) {
		t.Error(again)
	}
	if not, ok := adverts.Forget(b, id(1, 0), 2); ok || !adverts.Same(not, b) {
		t.Error(not)
	}
}

// What packages below lean on: the same, in other memory.
func TestCopy(t *testing.T) {
	for _, b := range append(others(), full(), api.Broker{}) {
		was := told(b)
		got := adverts.Copy(b)
		if told(got) != was {
			t.Error(got, b)
		}
		spoilAll(got)
		if told(b) != was {
			t.Error("shared:", b)
		}
	}
}

// roomy is full, with room behind each list, and what stands there.
func roomy() api.Broker {
	b := full()
	for _, p := range preds(b) {
		*p = append(slices.Clone(*p), text("room", "a"), text("room", "b"))[:len(*p)]
	}
	b.Near = append(b.Near, 88, 88)[:3]
	b.Seen = append(b.Seen, id(88, 0), id(88, 1))[:6]
	b.Adverts = append(b.Adverts, advert(id(88, 0), 1, text("room", "c")), advert(id(88, 1), 1))[:3]
	b.Entries = append(b.Entries, entry(id(88, 0), id(0, 0), 1, true, text("room", "d")), entry(id(88, 0), id(0, 1), 1, true))[:7]
	b.Owns = append(b.Owns, api.Own{ID: id(88, 0), Pred: list(text("room", "e"))}, api.Own{ID: id(88, 1)})[:3]
	return b
}

// whole is all that stands in b's memory, in its spare room too.
func whole(b api.Broker) string {
	b.Near, b.Seen = b.Near[:cap(b.Near)], b.Seen[:cap(b.Seen)]
	b.Adverts, b.Entries, b.Owns = b.Adverts[:cap(b.Adverts)], b.Entries[:cap(b.Entries)], b.Owns[:cap(b.Owns)]
	s := told(b)
	for _, p := range preds(b) {
		s += fmt.Sprint((*p)[:cap(*p)])
	}
	return s
}

// R2, R5: what is handed in isn't changed, its spare room included, nor is that read.
func TestWhatIsHandedInStays(t *testing.T) {
	b, was := roomy(), whole(roomy())
	if !adverts.Right(b) || !adverts.Same(b, full()) || !adverts.Same(full(), b) {
		t.Error("spare room is read")
	}
	if adverts.Seen(b, id(88, 0)) {
		t.Error("seen")
	}
	if _, ok := adverts.Find(b, id(88, 0)); ok {
		t.Error("found")
	}
	if _, ok := adverts.Forget(b, id(88, 0), 1); ok {
		t.Error("forgotten")
	}
	for _, x := range []api.ID{id(0, 0), id(1, 2), id(1, 4), id(2, 0), id(88, 0), id(99, 9)} {
		adverts.Learn(b, advert(x, 4, span("a", 1, 1)))
		for _, from := range []int{api.Local, 0, 1, 4} {
			adverts.Forget(b, x, from)
		}
		adverts.Find(b, x)
	}
	adverts.Copy(b)
	if whole(b) != was {
		t.Error("changed:", b)
	}
	near := []int{5, 1, 5, 0, 9, 9}
	if got := adverts.New(3, near[:4]...); !slices.Equal(got.Near, []int{0, 1, 5}) || !slices.Equal(near, []int{5, 1, 5, 0, 9, 9}) {
		t.Error(got, near)
	}
}

// R2: nothing of what was handed in is kept, and an answer is new memory.
func TestAnswersAreNew(t *testing.T) {
	near := []int{0, 1, 5}
	made := adverts.New(3, near...)
	if spoil(made.Near, 77); !slices.Equal(near, []int{0, 1, 5}) {
		t.Error(near)
	}
	made = adverts.New(3, near...)
	if spoil(near, 77); !slices.Equal(made.Near, []int{0, 1, 5}) {
		t.Error(made)
	}
	for _, call := range []func(b api.Broker, a api.Advert) (api.Broker, bool){
		func(b api.Broker, a api.Advert) (api.Broker, bool) { return adverts.Learn(b, a) },
		func(b api.Broker, a api.Advert) (api.Broker, bool) { return adverts.Forget(b, id(1, 2), 1) },
		func(b api.Broker, a api.Advert) (api.Broker, bool) { return adverts.Forget(b, id(2, 0), 4) },
	} {
		b, was := roomy(), whole(roomy())
		a := advert(id(0, 0), 1, append(list(span("a", 1, 1)), text("room", "r"))[:1]...)
		got, ok := call(b, a)
		want := told(got)
		spoil(b.Near, 66)
		spoilAll(b)
		spoil(a.Pred, text("spoilt", "spoilt"))
		if !ok || told(got) != want {
			t.Error("kept:", got, ok)
		}
		b = roomy()
		a = advert(id(0, 0), 1, append(list(span("a", 1, 1)), text("room", "r"))[:1]...)
		got, _ = call(b, a)
		spoilAll(got)
		if whole(b) != was || a.Pred[0] != span("a", 1, 1) || a.Pred[:2][1] != text("room", "r") {
			t.Error("shared:", b, a)
		}
	}
	b := roomy()
	a, _ := adverts.Find(b, id(1, 2))
	if spoil(a.Pred, text("spoilt", "spoilt")); whole(b) != whole(roomy()) {
		t.Error("shared:", b)
	}
	a, _ = adverts.Find(b, id(1, 2))
	if spoilAll(b); fmt.Sprint(a) != fmt.Sprint(full().Adverts[0]) {
		t.Error("kept:", a)
	}
}

// What is made from one broker twice doesn't meet, whatever is done to either.
func TestTwoOfOne(t *testing.T) {
	b := full()
	one, _ := adverts.Learn(b, advert(id(3, 0), 1))
	other, _ := adverts.Learn(b, advert(id(3, 1), 4))
	gone, _ := adverts.Forget(one, id(3, 0), 1)
	if adverts.Seen(one, id(3, 1)) || adverts.Seen(other, id(3, 0)) || !adverts.Seen(gone, id(3, 0)) {
		t.Error(one, other, gone)
	}
	if _, ok := adverts.Find(one, id(3, 0)); !ok || told(b) != told(full()) {
		t.Error(one, b)
	}
}

// R4: nil and empty lists mean the same.
func TestNilAndEmpty(t *testing.T) {
	none := api.Broker{Near: []int{}, Adverts: []api.Advert{}, Seen: []api.ID{}, Entries: []api.Entry{}, Owns: []api.Own{}}
	if !adverts.Right(none) || !adverts.Same(none, api.Broker{}) || !adverts.Same(api.Broker{}, none) || !adverts.Same(adverts.New(0), adverts.New(0, []int{}...)) {
		t.Error("empty lists")
	}
	one, _ := adverts.Learn(none, advert(id(1, 0), api.Local))
	other, ok := adverts.Learn(api.Broker{}, advert(id(1, 0), api.Local, list()...))
	if !ok || !adverts.Same(one, other) || !adverts.Right(one) {
		t.Error(one, other)
	}
	a, b := full(), full()
	a.Adverts[2].Pred, a.Entries[2].Pred, a.Owns[0].Pred = nil, nil, nil
	b.Adverts[2].Pred, b.Entries[2].Pred, b.Owns[0].Pred = list(), make([]api.Constraint, 0, 3), list()
	if !adverts.Right(a) || !adverts.Right(b) || !adverts.Same(a, b) {
		t.Error(a, b)
	}
}

// R1: whatever is given, every call ends, and none panics.
func TestOfWhateverEnds(t *testing.T) {
	for _, b := range append(others(), api.Broker{}) {
		for _, n := range odd() {
			for _, x := range []api.ID{id(n, 0), id(1, n), id(n, n), id(1, 2), id(1, 5), id(2, 0)} {
				seen := adverts.Seen(b, x)
				got, ok := adverts.Learn(b, advert(x, n, api.Constraint{}, span("", n, 0)))
				if ok == seen || !adverts.Seen(got, x) {
					t.Error(x, b, got)
				}
				got, ok = adverts.Forget(b, x, n)
				if _, still := adverts.Find(got, x); ok && still {
					t.Error(x, b, got)
				}
				adverts.Right(got)
				adverts.Same(got, b)
			}
		}
	}
}

func TestLongRows(t *testing.T) {
	const long = 1 << 16
	b := api.Broker{}
	for i := range long {
		x := id(i/4, i%4)
		b.Near = append(b.Near, i)
		b.Seen = append(b.Seen, x)
		b.Adverts = append(b.Adverts, advert(x, i, span("a", 0, i)))
		b.Entries = append(b.Entries, entry(x, x, api.Local, true))
		b.Owns = append(b.Owns, api.Own{ID: x})
	}
	if !adverts.Right(b) || !adverts.Same(b, twin(b)) {
		t.Error("a long broker")
	}
	next, ok := adverts.Learn(b, advert(id(7, 4), api.Local))
	if !ok || !adverts.Right(next) || next.Seen[32] != id(7, 4) || len(next.Adverts) != long+1 {
		t.Error("learned")
	}
	last := b.Adverts[long-1]
	next, ok = adverts.Forget(b, last.ID, last.Parent)
	if !ok || !adverts.Right(next) || len(next.Adverts) != long-1 || len(next.Entries) != long-1 || len(next.Seen) != long {
		t.Error("forgotten")
	}
	if next = adverts.New(0, append(b.Near, b.Near...)...); len(next.Near) != long {
		t.Error("near")
	}
	b.Entries[long-1].Up, b.Adverts[long-1].Parent = true, api.Local
	if adverts.Right(b) {
		t.Error("above a root")
	}
}
