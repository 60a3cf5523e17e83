package route_test

import (
	"fmt"
	"math"
	"slices"
	"strings"
	"testing"

	"broadside/adverts"
	"broadside/api"
	"broadside/flood"
	"broadside/graph"
	"broadside/rel"
	"broadside/route"
	"broadside/subs"
	"broadside/value"
	"broadside/wire"
)

func id(client, seq int) api.ID { return api.ID{Client: client, Seq: seq} }

func list(l ...api.Constraint) []api.Constraint { return l }

func span(name string, lo, hi int) api.Constraint {
	return api.Constraint{Name: name, Kind: api.CRange, Lo: lo, Hi: hi}
}

func text(name, s string) api.Constraint {
	return api.Constraint{Name: name, Kind: api.CText, Text: s}
}

func begin(name, s string) api.Constraint {
	return api.Constraint{Name: name, Kind: api.CPrefix, Text: s}
}

func advert(x api.ID, parent int, l ...api.Constraint) api.Advert {
	return api.Advert{ID: x, Pred: l, Parent: parent}
}

func entry(tree, sub api.ID, from int, up bool, l ...api.Constraint) api.Entry {
	return api.Entry{Tree: tree, Sub: sub, Pred: l, From: from, Up: up}
}

func own(x api.ID, l ...api.Constraint) api.Own { return api.Own{ID: x, Pred: l} }

// sub and unsub are messages about a subscription in a tree.
func sub(tree, x api.ID, l ...api.Constraint) api.Message {
	return api.Message{Kind: api.MSub, Tree: tree, ID: x, Pred: l}
}

func unsub(tree, x api.ID) api.Message {
	return api.Message{Kind: api.MUnsub, Tree: tree, ID: x}
}

// told is all that is in x; nil and empty lists are told the same.
func told(x any) string { return fmt.Sprintf("%+v", x) }

// lines is the kind of each message, its IDs, and where it goes.
func lines(out []api.Out) string {
	var l []string
	for _, o := range out {
		name := map[int]string{api.MAdv: "adv", api.MUnadv: "unadv", api.MSub: "sub", api.MUnsub: "unsub"}[o.M.Kind]
		l = append(l, fmt.Sprintf("%s(%d,%d)(%d,%d)>%d", name, o.M.Tree.Client, o.M.Tree.Seq, o.M.ID.Client, o.M.ID.Seq, o.To))
	}
	return strings.Join(l, " ")
}

// The trees of full: one from 1, one of its own, one from 4. One more is gone,
// and one is not known yet.
var first, root, second, gone, fresh = id(1, 2), id(1, 5), id(2, 0), id(1, 3), id(1, 7)

// full is a right and tight broker with some of everything.
func full() api.Broker {
	return api.Broker{
		Me:      3,
		Near:    []int{0, 1, 4, 6},
		Adverts: []api.Advert{advert(first, 1, span("a", 1, 9)), advert(root, api.Local, span("a", 1, 1)), advert(second, 4, span("b", 0, 5))},
		Seen:    []api.ID{id(0, 7), first, gone, root, second},
		Entries: []api.Entry{
			entry(first, id(0, 3), 0, true, span("a", 1, 9)),
			entry(first, id(0, 4), 6, false, span("a", 2, 8)),
			entry(first, id(6, 0), api.Local, false, span("a", 1, 9)),
			entry(first, id(6, 2), api.Local, true, span("a", 2, 12)),
			entry(first, id(6, 4), api.Local, false, span("a", 3, 3), span("b", 1, 1)),
			entry(root, id(0, 3), 0, false, span("a", 1, 9)),
			entry(root, id(6, 0), api.Local, false, span("a", 1, 9)),
			entry(second, id(0, 5), 1, true, span("b", 2, 3)),
			entry(second, id(6, 0), api.Local, true, span("a", 1, 9)),
			entry(second, id(6, 2), api.Local, true, span("a", 2, 12)),
			entry(second, id(6, 4), api.Local, false, span("a", 3, 3), span("b", 1, 1)),
		},
		Owns: []api.Own{
			own(id(6, 0), span("a", 1, 9)),
			own(id(6, 2), span("a", 2, 12)),
			own(id(6, 4), span("a", 3, 3), span("b", 1, 1)),
			own(id(7, 0), span("a", 20, 30), text("b", "x")),
		},
	}
}

// odd is numbers of all sizes.
func odd() []int {
	return []int{math.MinInt, math.MinInt + 1, -2, -1, 0, 1, 2, 63, 64, math.MaxInt - 1, math.MaxInt}
}

func TestFullIsRight(t *testing.T) {
	if !adverts.Right(full()) || !subs.Tight(full()) {
		t.Fatal(full())
	}
}

// with is b with e in its place.
func with(b api.Broker, e api.Entry) api.Broker {
	at := slices.IndexFunc(b.Entries, func(x api.Entry) bool {
		return adverts.Less(e.Tree, x.Tree) || e.Tree == x.Tree && adverts.Less(e.Sub, x.Sub)
	})
	if at < 0 {
		at = len(b.Entries)
	}
	b.Entries = slices.Insert(slices.Clone(b.Entries), at, e)
	return b
}

// without is b without that entry.
func without(b api.Broker, tree, x api.ID) api.Broker {
	b.Entries = slices.DeleteFunc(slices.Clone(b.Entries), func(e api.Entry) bool { return e.Tree == tree && e.Sub == x })
	return b
}

// raised is b with that entry passed on.
func raised(b api.Broker, tree, x api.ID) api.Broker {
	b.Entries = slices.Clone(b.Entries)
	for i, e := range b.Entries {
		b.Entries[i].Up = e.Up || e.Tree == tree && e.Sub == x
	}
	return b
}

// P12.1

func TestSubscribe(t *testing.T) {
	late := id(6, 3)
	for i, q := range []struct {
		p   []api.Constraint
		in  string // in which trees it is, and where it is passed on
		out string
	}{
		// it meets none, one, two, all
		{list(span("a", 10, 20), span("b", 6, 7)), "", ""},
		{list(span("a", 10, 12), span("b", 6, 7)), "", ""},
		{list(span("a", 2, 14), span("b", 6, 7)), "first+", "sub(1,2)(6,3)>1"},
		{list(span("a", 1, 1), span("b", 9, 9)), "first- root-", ""},
		{list(span("a", 0, 1), span("b", 5, 9)), "first+ root- second+", "sub(1,2)(6,3)>1 sub(2,0)(6,3)>4"},
		{list(span("a", 10, 20)), "second+", "sub(2,0)(6,3)>4"},
		{list(span("a", 9, 20)), "first+ second+", "sub(1,2)(6,3)>1 sub(2,0)(6,3)>4"},
		{nil, "first+ root- second+", "sub(1,2)(6,3)>1 sub(2,0)(6,3)>4"},
		// it meets, and is covered: in one tree, in all
		{list(span("a", 2, 9)), "first- second-", ""},
		{list(span("a", 1, 9)), "first- root- second-", ""},
		{list(span("a", 0, 9)), "first+ root- second+", "sub(1,2)(6,3)>1 sub(2,0)(6,3)>4"},
		{list(span("b", 2, 3)), "first+ root- second-", "sub(1,2)(6,3)>1"},
		{list(span("b", 2, 2)), "first+ root- second-", "sub(1,2)(6,3)>1"},
		{list(span("b", 1, 3)), "first+ root- second+", "sub(1,2)(6,3)>1 sub(2,0)(6,3)>4"},
		// several cover it together, and none by itself
		{list(span("a", 1, 12)), "first+ root- second+", "sub(1,2)(6,3)>1 sub(2,0)(6,3)>4"},
		// the other kind, texts and prefixes
		{list(text("a", "x")), "second+", "sub(2,0)(6,3)>4"},
		{list(begin("b", "x")), "first+ root-", "sub(1,2)(6,3)>1"},
		{list(text("a", "x"), text("b", "x")), "", ""},
		{list(text("c", "x")), "first+ root- second+", "sub(1,2)(6,3)>1 sub(2,0)(6,3)>4"},
		// no publication has more than five names
		{list(span("c", 0, 0), span("d", 0, 0), span("e", 0, 0), span("f", 0, 0)), "first+ root- second+", "sub(1,2)(6,3)>1 sub(2,0)(6,3)>4"},
		{list(span("b", 7, 7), span("c", 0, 0), span("d", 0, 0), span("e", 0, 0), span("f", 0, 0)), "", ""},
		{list(span("a", 5, 5), span("c", 0, 0), span("d", 0, 0), span("e", 0, 0), span("f", 0, 0)), "first-", ""},
	} {
		want := full()
		want.Owns = slices.Insert(want.Owns, 2, own(late, q.p...))
		for _, s := range strings.Fields(q.in) {
			tree := map[string]api.ID{"first": first, "root": root, "second": second}[s[:len(s)-1]]
			want = with(want, entry(tree, late, api.Local, s[len(s)-1] == '+', q.p...))
		}
		b, out := route.Subscribe(full(), late, q.p)
		if told(b) != told(want) || !adverts.Right(b) || !subs.Tight(b) {
			t.Error(i, b)
		}
		if lines(out) != q.out {
			t.Error(i, lines(out))
		}
		for _, o := range out {
			if told(o.M.Pred) != told(q.p) {
				t.Error(i, o)
			}
		}
	}
}

// What the client has is passed over, whatever its predicate is now.
func TestSubscribePassesOver(t *testing.T) {
	for _, o := range full().Owns {
		for _, p := range [][]api.Constraint{nil, o.Pred, list(span("a", -9, 99)), list(text("q", "q"))} {
			if b, out := route.Subscribe(full(), o.ID, p); len(out) > 0 || told(b) != told(full()) {
				t.Error(o, p, b, out)
			}
		}
	}
	b, _ := route.Subscribe(full(), id(9, 9), list(span("c", 1, 2)))
	if again, out := route.Subscribe(b, id(9, 9), list(span("c", 1, 2))); len(out) > 0 || told(again) != told(b) {
		t.Error(again, out)
	}
}

// Owns rise, whichever comes.
func TestSubscribeInItsPlace(t *testing.T) {
	for _, client := range append(odd(), 6, 7) {
		for _, seq := range append(odd(), 3, 4) {
			x := id(client, seq)
			if slices.ContainsFunc(full().Owns, func(o api.Own) bool { return o.ID == x }) {
				continue
			}
			b, _ := route.Subscribe(full(), x, list(span("z", 1, 1)))
			want := append(full().Owns, own(x, span("z", 1, 1)))
			slices.SortFunc(want, func(a, b api.Own) int {
				if adverts.Less(a.ID, b.ID) {
					return -1
				}
				return 1
			})
			if told(b.Owns) != told(want) || !adverts.Right(b) {
				t.Error(x, b)
			}
		}
	}
}

// An entry of that ID that came from elsewhere stays as it is.
func TestSubscribeBesideAnEntry(t *testing.T) {
	p := list(span("a", 0, 50))
	want := with(full(), entry(second, id(0, 3), api.Local, true, p...))
	want.Owns = slices.Insert(want.Owns, 0, own(id(0, 3), p...))
	b, out := route.Subscribe(full(), id(0, 3), p)
	if told(b) != told(want) || lines(out) != "sub(2,0)(0,3)>4" {
		t.Error(b, lines(out))
	}
}

// One that no tree brings anything is owned all the same; so it is by a broker
// that knows no tree.
func TestSubscribeAheadOfTrees(t *testing.T) {
	for _, b := range []api.Broker{{}, adverts.New(3, 0, 1), {Owns: []api.Own{own(id(1, 1))}, Near: []int{5}}} {
		got, out := route.Subscribe(b, id(2, 2), list(span("a", 1, 2)))
		b.Owns = append(b.Owns, own(id(2, 2), span("a", 1, 2)))
		if told(got) != told(b) || len(out) > 0 {
			t.Error(got, out)
		}
	}
	// the whole's second example: it goes up when the advertisement comes
	b, _ := route.Subscribe(adverts.New(3, 0, 1), id(2, 2), list(span("a", 1, 2)))
	b, out := flood.Advertise(b, 1, first, list(span("a", 2, 9)))
	if lines(out) != "adv(1,2)(0,0)>0 sub(1,2)(2,2)>1" {
		t.Error(lines(out))
	}
	if _, out = route.Unsubscribe(b, id(2, 2)); lines(out) != "unsub(1,2)(2,2)>1" {
		t.Error(lines(out))
	}
}

// P12.2

func TestOnSub(t *testing.T) {
	for i, q := range []struct {
		from int
		m    api.Message
		up   bool
	}{
		{0, sub(first, id(0, 5), span("a", 0, 9)), true},
		{4, sub(first, id(0, 5), span("a", 0, 9)), true},
		{6, sub(first, id(9, 9)), true},
		{6, sub(first, id(0, 0), text("a", "x")), true},
		{6, sub(first, id(0, 0), span("a", 1, 12)), true}, // by none by itself
		{6, sub(first, id(0, 0), span("a", 1, 9)), false},
		{0, sub(first, id(6, 3), span("a", 4, 12), text("c", "x")), false},
		// it is the child's to ask whether it meets the advertisement
		{0, sub(first, id(6, 3), span("a", 50, 60)), true},
		{1, sub(second, id(6, 3), span("b", 9, 9)), true},
		{1, sub(second, id(0, 3), span("b", 3, 3)), false},
		{0, sub(second, id(0, 3), span("b", 2, 4)), true},
		{1, sub(second, id(6, 9), span("a", 3, 4)), false},
		// what is passed on in another tree covers nothing here
		{6, sub(second, id(0, 3), span("a", 1, 12)), true},
		{6, sub(first, id(0, 6), span("b", 2, 3)), true},
		// above a root there is nobody
		{0, sub(root, id(0, 4), span("a", 1, 1)), false},
		{1, sub(root, id(0, 4), span("a", -9, 9)), false},
		{4, sub(root, id(9, 4)), false},
		{6, sub(root, id(9, 4), text("q", "q")), false},
	} {
		want := with(full(), entry(q.m.Tree, q.m.ID, q.from, q.up, q.m.Pred...))
		var wantOut []api.Out
		if a, _ := adverts.Find(full(), q.m.Tree); q.up {
			wantOut = []api.Out{{To: a.Parent, M: q.m}}
		}
		b, out := route.OnSub(full(), q.from, q.m)
		if told(b) != told(want) || !adverts.Right(b) || !subs.Tight(b) {
			t.Error(i, b)
		}
		if told(out) != told(wantOut) {
			t.Error(i, out)
		}
		if again, out := route.OnSub(b, q.from, q.m); len(out) > 0 || told(again) != told(b) {
			t.Error(i, again, out)
		}
	}
}

func TestOnSubPassesOver(t *testing.T) {
	wide := list(span("a", -9, 99))
	// what is there, from wherever, with whatever predicate
	for _, e := range full().Entries {
		for _, from := range full().Near {
			for _, p := range [][]api.Constraint{nil, e.Pred, wide} {
				if b, out := route.OnSub(full(), from, sub(e.Tree, e.Sub, p...)); len(out) > 0 || told(b) != told(full()) {
					t.Error(e, from, p, b, out)
				}
			}
		}
	}
	// of trees that it doesn't know: they are gone, or weren't there
	for _, tree := range []api.ID{gone, fresh, id(0, 7), id(6, 0), {}, id(math.MinInt, 3), id(math.MaxInt, math.MaxInt)} {
		for _, from := range full().Near {
			for _, b := range []api.Broker{full(), {}, adverts.New(3, 0, 1, 4, 6)} {
				if got, out := route.OnSub(b, from, sub(tree, id(9, 9), wide...)); len(out) > 0 || told(got) != told(b) {
					t.Error(tree, from, got, out)
				}
			}
		}
	}
	// from its tree's parent
	for _, a := range full().Adverts {
		if a.Parent == api.Local {
			continue
		}
		for _, x := range []api.ID{id(0, 0), id(6, 3), id(9, 9)} {
			if b, out := route.OnSub(full(), a.Parent, sub(a.ID, x, wide...)); len(out) > 0 || told(b) != told(full()) {
				t.Error(a, x, b, out)
			}
		}
	}
}

// The whole's sixth example: the advertisement is taken back while a
// subscription is on its way up; and its end is passed over, too.
func TestOnSubBehindTheEnd(t *testing.T) {
	b, _ := flood.Unadvertise(full(), 1, first)
	for _, from := range full().Near {
		if got, out := route.OnSub(b, from, sub(first, id(9, 9))); len(out) > 0 || told(got) != told(b) {
			t.Error(from, got, out)
		}
		if got, out := route.OnUnsub(b, from, unsub(first, id(0, 3))); len(out) > 0 || told(got) != told(b) {
			t.Error(from, got, out)
		}
	}
	if got, out := route.Unsubscribe(b, id(6, 2)); len(subs.Of(got, first)) > 0 || lines(out) != "unsub(2,0)(6,2)>4" {
		t.Error(got, lines(out))
	}
}

// P12.3

func TestUnsubscribe(t *testing.T) {
	for i, q := range []struct {
		x    api.ID
		said string
	}{
		// it went up one tree, was covered in one, and is at a root
		{id(6, 0), "unsub(2,0)(6,0)>4"},
		{id(6, 2), "unsub(1,2)(6,2)>1 unsub(2,0)(6,2)>4"},
		{id(6, 4), ""},
		// no tree has it
		{id(7, 0), ""},
	} {
		want := full()
		want.Owns = slices.DeleteFunc(want.Owns, func(o api.Own) bool { return o.ID == q.x })
		for _, a := range full().Adverts {
			want = without(want, a.ID, q.x)
		}
		b, out := route.Unsubscribe(full(), q.x)
		if told(b) != told(want) || lines(out) != q.said || !adverts.Right(b) || !subs.Tight(b) {
			t.Error(i, b, lines(out))
		}
		if again, out := route.Unsubscribe(b, q.x); len(out) > 0 || told(again) != told(b) {
			t.Error(i, again, out)
		}
	}
}

// What it covered goes up ahead of its end: in each tree by itself, by rising
// IDs, from wherever it came; and what one of these covers doesn't.
func TestUnsubscribeUncovers(t *testing.T) {
	b := full()
	// In first, (0,3) is all that covers the rest; (6,2) would, if it were gone.
	b, _ = route.OnUnsub(b, 0, unsub(first, id(0, 3)))
	if _, out := route.Unsubscribe(b, id(6, 0)); lines(out) != "unsub(1,2)(6,0)>1 unsub(2,0)(6,0)>4" {
		t.Error(lines(out))
	}
	b, out := route.Unsubscribe(b, id(6, 2))
	if lines(out) != "unsub(1,2)(6,2)>1 unsub(2,0)(6,2)>4" {
		t.Error(lines(out))
	}
	was := b
	b, out = route.Unsubscribe(b, id(6, 0))
	if lines(out) != "sub(1,2)(0,4)>1 unsub(1,2)(6,0)>1 sub(2,0)(6,4)>4 unsub(2,0)(6,0)>4" {
		t.Error(lines(out))
	}
	if told(out[0].M) != told(sub(first, id(0, 4), span("a", 2, 8))) || told(out[1].M) != told(unsub(first, id(6, 0))) {
		t.Error(out)
	}
	want := raised(raised(without(without(without(was, first, id(6, 0)), root, id(6, 0)), second, id(6, 0)), first, id(0, 4)), second, id(6, 4))
	if told(b.Entries) != told(want.Entries) || len(b.Owns) != 2 {
		t.Error(b)
	}
	// Two that don't cover each other, and two that do.
	b = adverts.New(0, 1, 2)
	b, _ = flood.Advertise(b, 1, first, nil)
	b, _ = route.Subscribe(b, id(5, 5), list(span("a", 0, 9)))
	b, _ = route.OnSub(b, 2, sub(first, id(9, 0), span("a", 5, 6)))
	b, _ = route.OnSub(b, 2, sub(first, id(3, 0), span("a", 1, 2)))
	b, _ = route.Subscribe(b, id(5, 6), list(span("a", 4, 6)))
	b, _ = route.Subscribe(b, id(5, 4), list(span("a", 1, 1)))
	if b, out = route.Unsubscribe(b, id(5, 5)); lines(out) != "sub(1,2)(3,0)>1 sub(1,2)(5,6)>1 unsub(1,2)(5,5)>1" {
		t.Error(lines(out))
	}
}

func TestUnsubscribePassesOver(t *testing.T) {
	for _, x := range []api.ID{id(0, 3), id(0, 4), id(0, 5), first, root, second, gone, {}, id(6, 1), id(6, 3), id(6, 5), id(7, 1), id(math.MinInt, 0), id(math.MaxInt, math.MaxInt)} {
		for _, b := range []api.Broker{full(), {}, adverts.New(3, 0, 1)} {
			if got, out := route.Unsubscribe(b, x); len(out) > 0 || told(got) != told(b) {
				t.Error(x, got, out)
			}
		}
	}
}

// An entry of that ID that came from elsewhere isn't the client's own.
func TestUnsubscribeBesideAnEntry(t *testing.T) {
	b, _ := route.Subscribe(full(), id(0, 3), list(span("a", 0, 50)))
	if b, out := route.Unsubscribe(b, id(0, 3)); told(b) != told(full()) || lines(out) != "unsub(2,0)(0,3)>4" {
		t.Error(b, lines(out))
	}
}

// P12.4

func TestOnUnsub(t *testing.T) {
	for i, q := range []struct {
		from int
		m    api.Message
		ups  []api.ID
		said string
	}{
		{0, unsub(first, id(0, 3)), []api.ID{id(6, 0)}, "sub(1,2)(6,0)>1 unsub(1,2)(0,3)>1"},
		{6, unsub(first, id(0, 4)), nil, ""},
		{0, unsub(root, id(0, 3)), nil, ""},
		{1, unsub(second, id(0, 5)), nil, "unsub(2,0)(0,5)>4"},
	} {
		want := without(full(), q.m.Tree, q.m.ID)
		for _, x := range q.ups {
			want = raised(want, q.m.Tree, x)
		}
		b, out := route.OnUnsub(full(), q.from, q.m)
		if told(b) != told(want) || lines(out) != q.said || !adverts.Right(b) || !subs.Tight(b) {
			t.Error(i, b, lines(out))
		}
		if again, out := route.OnUnsub(b, q.from, q.m); len(out) > 0 || told(again) != told(b) {
			t.Error(i, again, out)
		}
	}
}

func TestOnUnsubPassesOver(t *testing.T) {
	// from others than it came from: the client's own stay, too
	for _, e := range full().Entries {
		for _, from := range full().Near {
			if from == e.From {
				continue
			}
			if b, out := route.OnUnsub(full(), from, unsub(e.Tree, e.Sub)); len(out) > 0 || told(b) != told(full()) {
				t.Error(e, from, b, out)
			}
		}
	}
	// what isn't there: no such tree, no such subscription, or the two apart
	for _, tree := range []api.ID{first, root, second, gone, fresh, {}, id(0, 3), id(math.MaxInt, 0)} {
		for _, x := range []api.ID{{}, id(0, 2), id(7, 0), first, id(0, 9), id(9, 9), id(math.MinInt, math.MinInt)} {
			for _, from := range full().Near {
				for _, b := range []api.Broker{full(), {}, adverts.New(3, 0, 1, 4, 6)} {
					if got, out := route.OnUnsub(b, from, unsub(tree, x)); len(out) > 0 || told(got) != told(b) {
						t.Error(tree, x, from, got, out)
					}
				}
			}
		}
	}
	if b, out := route.OnUnsub(full(), 0, unsub(second, id(0, 4))); len(out) > 0 || told(b) != told(full()) {
		t.Error(b, out)
	}
}

// Of one tree alone: what is in another of the same subscription stays.
func TestOnUnsubOfOneTree(t *testing.T) {
	b := full()
	for _, tree := range []api.ID{first, root, second} {
		b, _ = route.OnSub(b, 6, sub(tree, id(8, 8), span("a", -9, 99)))
	}
	got, out := route.OnUnsub(b, 6, unsub(first, id(8, 8)))
	if lines(out) != "unsub(1,2)(8,8)>1" || told(got) != told(without(b, first, id(8, 8))) {
		t.Error(got, lines(out))
	}
}

// The chapter's runs.
func TestRuns(t *testing.T) {
	b, _ := flood.Advertise(adverts.New(0, 1, 2), 1, id(7, 0), list(span("a", 1, 9)))
	one, out := route.Subscribe(b, id(8, 0), list(span("a", 1, 5)))
	if lines(out) != "sub(7,0)(8,0)>1" {
		t.Error(lines(out))
	}
	if end, out := route.Unsubscribe(one, id(8, 0)); lines(out) != "unsub(7,0)(8,0)>1" || told(end) != told(b) {
		t.Error(end, lines(out))
	}
	two, out := route.OnSub(one, 2, sub(id(7, 0), id(9, 0), span("a", 2, 3)))
	if len(out) > 0 || len(two.Entries) != 2 {
		t.Error(two, lines(out))
	}
	if end, out := route.Unsubscribe(two, id(8, 0)); lines(out) != "sub(7,0)(9,0)>1 unsub(7,0)(8,0)>1" || told(end.Entries) != told([]api.Entry{entry(id(7, 0), id(9, 0), 2, true, span("a", 2, 3))}) {
		t.Error(end, lines(out))
	}
	// the same of one that came by a link, with one of its own below
	three, _ := route.OnSub(b, 2, sub(id(7, 0), id(9, 0), span("a", 1, 5)))
	three, out = route.Subscribe(three, id(8, 0), list(span("a", 2, 3)))
	if len(out) > 0 {
		t.Error(lines(out))
	}
	if _, out = route.OnUnsub(three, 2, unsub(id(7, 0), id(9, 0))); lines(out) != "sub(7,0)(8,0)>1 unsub(7,0)(9,0)>1" {
		t.Error(lines(out))
	}
}

// pool is predicates that meet, cover and miss each other in all ways.
func pool() [][]api.Constraint {
	return [][]api.Constraint{
		nil, list(span("a", 0, 1)), list(span("a", 1, 2)), list(span("a", 0, 3)), list(text("a", "x")), list(begin("a", "")),
		list(span("b", 1, 1)), list(span("a", 1, 1), span("b", 1, 1)), list(span("a", 3, 4), span("b", 0, 2)), list(span("a", 0, 9)),
	}
}

// samples is publications enough to tell what is in pool apart.
func samples() [][]api.Attr {
	l := [][]api.Attr{nil}
	for n := -1; n <= 10; n++ {
		l = append(l, []api.Attr{{Name: "a", Value: value.Number(n)}}, []api.Attr{{Name: "b", Value: value.Number(n)}})
		for m := -1; m <= 3; m++ {
			l = append(l, []api.Attr{{Name: "a", Value: value.Number(n)}, {Name: "b", Value: value.Number(m)}})
		}
	}
	for _, s := range []string{"", "x", "y"} {
		l = append(l, []api.Attr{{Name: "a", Value: value.Text(s)}}, []api.Attr{{Name: "a", Value: value.Text(s)}, {Name: "b", Value: value.Number(1)}})
	}
	return l
}

// meets says whether one of samples is matched by p and q.
func meets(p, q []api.Constraint) bool {
	return slices.ContainsFunc(samples(), func(l []api.Attr) bool { return rel.Match(p, l) && rel.Match(q, l) })
}

// covers says whether p matches each of samples that q matches.
func covers(p, q []api.Constraint) bool {
	return !slices.ContainsFunc(samples(), func(l []api.Attr) bool { return rel.Match(q, l) && !rel.Match(p, l) })
}

// dice is numbers that look like chance, and are the same each time.
type dice uint64

// below is one of 0 to n - 1.
func (d *dice) below(n int) int {
	*d = *d*6364136223846793005 + 1442695040888963407
	return int(*d >> 33 % dice(n))
}

// row is an entry as the plain reckoning keeps it: which of pool it has.
type row struct {
	sub  api.ID
	pred int
	from int
	up   bool
}

// tree is an advertisement as the plain reckoning keeps it: its rows rise by
// sub. above is what its parent has from here by what was sent.
type tree struct {
	id     api.ID
	pred   int
	parent int
	rows   []row
	above  map[api.ID]int
}

// plain is a broker, reckoned by tables of what meets and covers what.
type plain struct {
	meet, cover [][]bool
	trees       []*tree
	owns        map[api.ID]bool
	said        []api.Out
}

// newPlain has one tree of each parent; what they are about is chance's to say.
func newPlain(d *dice, parents ...int) *plain {
	x := &plain{owns: map[api.ID]bool{}}
	for i, p := range pool() {
		x.meet, x.cover = append(x.meet, nil), append(x.cover, nil)
		for _, q := range pool() {
			x.meet[i], x.cover[i] = append(x.meet[i], meets(p, q)), append(x.cover[i], covers(p, q))
		}
	}
	for i, parent := range parents {
		x.trees = append(x.trees, &tree{id: id(1+i/2, i), pred: d.below(len(pool())), parent: parent, above: map[api.ID]int{}})
	}
	return x
}

// covered says whether a row that is Up covers k.
func (x *plain) covered(t *tree, k int) bool {
	return slices.ContainsFunc(t.rows, func(r row) bool { return r.up && x.cover[r.pred][k] })
}

func (x *plain) add(t *tree, sub api.ID, k, from int) {
	has := slices.ContainsFunc(t.rows, func(r row) bool { return r.sub == sub })
	if has || from == t.parent && from != api.Local {
		return
	}
	up := t.parent != api.Local && !x.covered(t, k)
	t.rows = append(t.rows, row{sub, k, from, up})
	slices.SortFunc(t.rows, func(a, b row) int {
		if adverts.Less(a.sub, b.sub) {
			return -1
		}
		return 1
	})
	if up {
		x.said = append(x.said, api.Out{To: t.parent, M: api.Message{Kind: api.MSub, Tree: t.id, ID: sub, Pred: pool()[k]}})
	}
}

func (x *plain) take(t *tree, sub api.ID, from int) {
	at := slices.IndexFunc(t.rows, func(r row) bool { return r.sub == sub && r.from == from })
	if at < 0 {
		return
	}
	was := t.rows[at].up
	t.rows = slices.Delete(t.rows, at, at+1)
	if !was {
		return
	}
	for i, r := range t.rows {
		if !r.up && !x.covered(t, r.pred) {
			t.rows[i].up = true
			x.said = append(x.said, api.Out{To: t.parent, M: api.Message{Kind: api.MSub, Tree: t.id, ID: r.sub, Pred: pool()[r.pred]}})
		}
	}
	x.said = append(x.said, api.Out{To: t.parent, M: api.Message{Kind: api.MUnsub, Tree: t.id, ID: sub}})
}

// broker is x as the program keeps it, with nothing subscribed.
func (x *plain) broker() api.Broker {
	b := adverts.New(0, 2, 5, 7)
	for _, t := range x.trees {
		b, _ = adverts.Learn(b, api.Advert{ID: t.id, Pred: pool()[t.pred], Parent: t.parent})
	}
	return b
}

// entries is x's rows as the program keeps them.
func (x *plain) entries() []api.Entry {
	var l []api.Entry
	for _, t := range x.trees {
		for _, r := range t.rows {
			l = append(l, entry(t.id, r.sub, r.from, r.up, pool()[r.pred]...))
		}
	}
	return l
}

// hear gives the parents what was sent, word by word: after each of them what
// the parent has from here must cover all that is here now.
func (x *plain) hear(t *testing.T, out []api.Out) {
	for _, o := range out {
		at := slices.IndexFunc(x.trees, func(y *tree) bool { return y.id == o.M.Tree })
		if at < 0 || x.trees[at].parent != o.To {
			t.Fatal(o)
		}
		y := x.trees[at]
		_, has := y.above[o.M.ID]
		if has == (o.M.Kind == api.MSub) {
			t.Error("the parent has it already, or has it no more:", o)
		}
		if o.M.Kind == api.MUnsub {
			delete(y.above, o.M.ID)
		} else {
			y.above[o.M.ID] = slices.IndexFunc(pool(), func(p []api.Constraint) bool { return told(p) == told(o.M.Pred) })
		}
		x.lacks(t, y, o.M)
	}
	for _, y := range x.trees {
		ups := 0
		for _, r := range y.rows {
			if _, has := y.above[r.sub]; has != r.up {
				t.Error("the parent and the table disagree:", y.id, r)
			} else if r.up {
				ups++
			}
		}
		if ups != len(y.above) {
			t.Error("the parent keeps what is gone:", y.id, y.above)
		}
	}
}

// lacks tells what of y's rows the parent lacks, when it has heard m.
func (x *plain) lacks(t *testing.T, y *tree, m api.Message) {
	if y.parent == api.Local {
		t.Error("sent above a root:", m)
	}
	for _, r := range y.rows {
		has := false
		for _, k := range y.above {
			has = has || x.cover[k][r.pred]
		}
		if !has {
			t.Error("the parent lacks", r, "after", m)
		}
	}
}

// Whatever comes, in whichever order: what is kept and sent is as the chapter
// says; and no parent lacks anything, not between two words either (P12.5).
func TestByPlainReckoning(t *testing.T) {
	for seed := range 60 {
		d := dice(seed)
		x := newPlain(&d, 2, api.Local, 5, 5)
		b := x.broker()
		for step := range 120 {
			var out []api.Out
			k, from, sub := d.below(len(pool())), []int{2, 5, 7}[d.below(3)], id(8+d.below(2), d.below(5))
			y := x.trees[d.below(len(x.trees))]
			x.said = nil
			switch d.below(8) {
			case 0, 1, 2:
				b, out = route.Subscribe(b, sub, pool()[k])
				for _, y := range x.trees {
					if !x.owns[sub] && x.meet[k][y.pred] {
						x.add(y, sub, k, api.Local)
					}
				}
				x.owns[sub] = true
			case 3:
				b, out = route.Unsubscribe(b, sub)
				for _, y := range x.trees {
					if x.owns[sub] {
						x.take(y, sub, api.Local)
					}
				}
				delete(x.owns, sub)
			case 4, 5, 6:
				b, out = route.OnSub(b, from, api.Message{Kind: api.MSub, Tree: y.id, ID: sub, Pred: pool()[k]})
				x.add(y, sub, k, from)
			case 7:
				b, out = route.OnUnsub(b, from, unsub(y.id, sub))
				x.take(y, sub, from)
			}
			if told(b.Entries) != told(x.entries()) || told(out) != told(x.said) || len(b.Owns) != len(x.owns) || !adverts.Right(b) || !subs.Tight(b) {
				t.Fatal(seed, step, b, out, x.said)
			}
			x.hear(t, out)
		}
	}
}

// All subscriptions of three predicates of pool, taken back in all orders:
// after each word the parent lacks nothing that is still below (P12.5).
func TestTakenBackInAllOrders(t *testing.T) {
	orders := [][3]int{{0, 1, 2}, {0, 2, 1}, {1, 0, 2}, {1, 2, 0}, {2, 0, 1}, {2, 1, 0}}
	n, d := len(pool()), dice(1)
	x := newPlain(&d, 2)
	x.trees[0].pred = 0
	for code := range n * n * n {
		which := [3]int{code % n, code / n % n, code / n / n}
		order := orders[code%len(orders)]
		b := x.broker()
		for i, k := range which {
			var out []api.Out
			b, out = route.OnSub(b, 5, sub(x.trees[0].id, id(9, i), pool()[k]...))
			x.add(x.trees[0], id(9, i), k, 5)
			x.hear(t, out)
		}
		for _, i := range order {
			var out []api.Out
			b, out = route.OnUnsub(b, 5, unsub(x.trees[0].id, id(9, i)))
			x.take(x.trees[0], id(9, i), 5)
			x.hear(t, out)
		}
		if len(b.Entries) > 0 || len(x.trees[0].above) > 0 {
			t.Fatal(which, order, b)
		}
	}
}

// way is a link in one direction, and what waits there.
type way struct {
	from, to int
	waits    []api.Message
}

// web is brokers, and what waits between them.
type web struct {
	brokers []api.Broker
	ways    []way
}

func newWeb(g api.Graph) *web {
	w := &web{}
	for n := range g.Brokers {
		w.brokers = append(w.brokers, adverts.New(n, graph.Near(g, n)...))
	}
	for _, l := range graph.Ways(g) {
		w.ways = append(w.ways, way{from: l[0], to: l[1]})
	}
	return w
}

// put takes what a broker answered.
func (w *web) put(n int, b api.Broker, out []api.Out) {
	w.brokers[n] = b
	for _, o := range out {
		at := slices.IndexFunc(w.ways, func(x way) bool { return x.from == n && x.to == o.To })
		w.ways[at].waits = append(w.ways[at].waits, o.M)
	}
}

// pick does the first message of one of the ways where something waits; false,
// if nothing waits.
func (w *web) pick(d *dice) bool {
	var busy []int
	for i, x := range w.ways {
		if len(x.waits) > 0 {
			busy = append(busy, i)
		}
	}
	if len(busy) == 0 {
		return false
	}
	x := &w.ways[busy[d.below(len(busy))]]
	m := x.waits[0]
	x.waits = x.waits[1:]
	b, out := w.brokers[x.to], []api.Out(nil)
	switch m.Kind {
	case api.MAdv:
		b, out = flood.Advertise(b, x.from, m.Tree, m.Pred)
	case api.MUnadv:
		b, out = flood.Unadvertise(b, x.from, m.Tree)
	case api.MSub:
		b, out = route.OnSub(b, x.from, m)
	case api.MUnsub:
		b, out = route.OnUnsub(b, x.from, m)
	}
	w.put(x.to, b, out)
	return true
}

// webs is graphs of all shapes.
func webs() []api.Graph {
	return []api.Graph{
		{Brokers: 1},
		{Brokers: 2, Links: [][2]int{{0, 1}}},
		{Brokers: 3, Links: [][2]int{{0, 1}, {1, 2}, {2, 0}}},
		{Brokers: 4, Links: [][2]int{{0, 1}, {0, 2}, {0, 3}}},
		{Brokers: 5, Links: [][2]int{{0, 1}, {1, 2}, {2, 3}, {3, 4}}},
		{Brokers: 5, Links: [][2]int{{0, 1}, {1, 2}, {2, 3}, {3, 4}, {4, 0}, {1, 3}}},
		{Brokers: 6, Links: [][2]int{{0, 1}, {0, 2}, {0, 3}, {0, 4}, {0, 5}, {1, 2}, {1, 3}, {1, 4}, {1, 5}, {2, 3}, {2, 4}, {2, 5}, {3, 4}, {3, 5}, {4, 5}}},
	}
}

// enough is more picks than what waits in webs can take.
const enough = 20000

// settle picks till nothing waits.
func (w *web) settle(t *testing.T, d *dice) {
	for range enough {
		if !w.pick(d) {
			return
		}
	}
	t.Fatal("it doesn't end")
}

// act does something that a client may do, of clients 0 to 9, one a broker.
// Advertisements are of clients by even, subscriptions by odd numbers.
func (w *web) act(d *dice) {
	n, x := d.below(len(w.brokers)), d.below(6)
	b, out, p := w.brokers[n], []api.Out(nil), pool()[d.below(len(pool()))]
	switch d.below(7) {
	case 0, 1:
		b, out = flood.Advertise(b, api.Local, id(n, 2*x), p)
	case 2:
		b, out = flood.Unadvertise(b, api.Local, id(n, 2*x))
	case 3, 4, 5:
		b, out = route.Subscribe(b, id(n, 2*x+1), p)
	case 6:
		b, out = route.Unsubscribe(b, id(n, 2*x+1))
	}
	w.put(n, b, out)
}

// askTables asks, when nothing waits, whether each broker has of each tree
// what its children passed on, and those of its own that meet it.
func (w *web) askTables(t *testing.T) {
	for n, b := range w.brokers {
		var want []api.Entry
		for _, a := range b.Adverts {
			for _, o := range b.Owns {
				if rel.Meets(o.Pred, a.Pred) {
					want = append(want, entry(a.ID, o.ID, api.Local, false, o.Pred...))
				}
			}
			for child, c := range w.brokers {
				if got, ok := adverts.Find(c, a.ID); !ok || got.Parent != n {
					continue
				}
				for _, e := range subs.Of(c, a.ID) {
					if e.Up {
						want = append(want, entry(a.ID, e.Sub, child, false, e.Pred...))
					}
				}
			}
		}
		if len(want) != len(b.Entries) {
			t.Error(n, "has too many or too few:", b.Entries, want)
		}
		for _, e := range want {
			got, ok := subs.Find(b, e.Tree, e.Sub)
			if got.Up = false; !ok || told(got) != told(e) {
				t.Error(n, "has", got, "and not", e)
			}
		}
	}
}

// Whatever clients do, and whatever is picked meanwhile, it ends; each broker
// is right and tight all the while; and then all tables fit together.
func TestWholeWebs(t *testing.T) {
	for i, g := range webs() {
		for seed := range 12 {
			w, d := newWeb(g), dice(100*i+seed)
			for range 60 {
				w.act(&d)
				for range d.below(1 + seed) {
					w.pick(&d)
				}
				for n, b := range w.brokers {
					if !adverts.Right(b) || !subs.Tight(b) {
						t.Fatal(g, seed, n, b)
					}
				}
			}
			w.settle(t, &d)
			w.askTables(t)
		}
	}
}

// reaches says whether, from n up that tree, each broker has an entry from
// below that covers p: then all that p matches comes down to n.
func (w *web) reaches(tree api.ID, n int, p []api.Constraint) bool {
	from := api.Local
	for range len(w.brokers) {
		a, ok := adverts.Find(w.brokers[n], tree)
		if !ok || !slices.ContainsFunc(subs.Of(w.brokers[n], tree), func(e api.Entry) bool { return e.From == from && rel.Covers(e.Pred, p) }) {
			return false
		}
		if a.Parent == api.Local {
			return true
		}
		from, n = n, a.Parent
	}
	return false
}

// P12.5, from end to end: one subscription stays; those that cover it, on all
// brokers, come and go. At no moment does any broker above lack it.
func TestWhatStaysIsNeverLacked(t *testing.T) {
	p := list(span("a", 4, 5))
	for i, g := range webs() {
		for seed := range 10 {
			w, d, tree := newWeb(g), dice(1000*i+seed), id(0, 0)
			top, home := seed%g.Brokers, (seed+seed/g.Brokers+1)%g.Brokers
			b, out := flood.Advertise(w.brokers[top], api.Local, tree, list(span("a", 0, 9)))
			w.put(top, b, out)
			w.settle(t, &d)
			if seed%2 == 0 {
				w.cover(&d, 5*g.Brokers, func() {})
			}
			b, out = route.Subscribe(w.brokers[home], id(50, 0), p)
			w.put(home, b, out)
			w.settle(t, &d)
			w.cover(&d, 20*g.Brokers, func() {
				if !w.reaches(tree, home, p) {
					t.Fatal(g, seed, "it is lacked")
				}
			})
		}
	}
}

// cover lets subscriptions come and go that many times, and picks meanwhile;
// ask is called after each step.
func (w *web) cover(d *dice, often int, ask func()) {
	for range often {
		n, x := d.below(len(w.brokers)), d.below(4)
		b, out := route.Subscribe(w.brokers[n], id(n, x), list(span("a", x, 9-x)))
		if slices.ContainsFunc(w.brokers[n].Owns, func(o api.Own) bool { return o.ID == id(n, x) }) {
			b, out = route.Unsubscribe(w.brokers[n], id(n, x))
		}
		w.put(n, b, out)
		ask()
		for range d.below(4) {
			w.pick(d)
			ask()
		}
	}
}

// The whole's third and fourth example, over a row of three brokers.
func TestWideAndNarrow(t *testing.T) {
	w, d := newWeb(api.Graph{Brokers: 3, Links: [][2]int{{0, 1}, {1, 2}}}), dice(1)
	b, out := flood.Advertise(w.brokers[0], api.Local, first, list(span("a", 0, 9)))
	w.put(0, b, out)
	w.settle(t, &d)
	b, out = route.Subscribe(w.brokers[1], id(4, 0), list(span("a", 1, 9)))
	w.put(1, b, out)
	w.settle(t, &d)
	b, out = route.Subscribe(w.brokers[2], id(5, 0), list(span("a", 2, 3)))
	if lines(out) != "sub(1,2)(5,0)>1" {
		t.Error(lines(out))
	}
	if b, out = route.OnSub(w.brokers[1], 2, out[0].M); len(out) > 0 {
		t.Error("a narrow one behind a wide one goes on:", lines(out))
	}
	_, out = route.Unsubscribe(b, id(4, 0))
	if lines(out) != "sub(1,2)(5,0)>0 unsub(1,2)(4,0)>0" {
		t.Error(lines(out))
	}
	top := w.brokers[0]
	for _, o := range out {
		if top, _ = route.OnSub(top, 1, o.M); o.M.Kind == api.MUnsub {
			top, _ = route.OnUnsub(top, 1, o.M)
		}
	}
	if told(top.Entries) != told([]api.Entry{entry(first, id(5, 0), 1, false, span("a", 2, 3))}) {
		t.Error(top)
	}
}

// All that is put out may go over a link.
func TestMessagesAreRight(t *testing.T) {
	for i, do := range calls() {
		for _, p := range append(pool(), list(span("f", 0, 0), span("g", 0, 0))) {
			b, out := do(full(), p)
			for _, o := range out {
				if !wire.Right(o.M) || !slices.Contains(b.Near, o.To) {
					t.Error(i, o)
				}
			}
		}
	}
}

// preds is where b's predicates stand, those in its spare room too.
func preds(b api.Broker) []*[]api.Constraint {
	var l []*[]api.Constraint
	for i := range b.Adverts[:cap(b.Adverts)] {
		l = append(l, &b.Adverts[:cap(b.Adverts)][i].Pred)
	}
	for i := range b.Entries[:cap(b.Entries)] {
		l = append(l, &b.Entries[:cap(b.Entries)][i].Pred)
	}
	for i := range b.Owns[:cap(b.Owns)] {
		l = append(l, &b.Owns[:cap(b.Owns)][i].Pred)
	}
	return l
}

// spoil writes over the whole of l, its spare room too.
func spoil[T any](l []T, x T) {
	l = l[:cap(l)]
	for i := range l {
		l[i] = x
	}
}

// spoilAll writes over all that b holds.
func spoilAll(b api.Broker) {
	for _, p := range preds(b) {
		spoil(*p, text("spoilt", "spoilt"))
	}
	spoil(b.Near, 77)
	spoil(b.Seen, id(77, 77))
	spoil(b.Adverts, advert(id(77, 77), 77))
	spoil(b.Entries, entry(id(77, 77), id(77, 77), 77, true))
	spoil(b.Owns, own(id(77, 77)))
}

// spoilOut writes over all that out holds.
func spoilOut(out []api.Out) {
	for _, o := range out[:cap(out)] {
		spoil(o.M.Pred, text("spoilt", "spoilt"))
		spoil(o.M.Attrs, api.Attr{Name: "spoilt"})
	}
	spoil(out, api.Out{To: 77})
}

// room is l with room behind it, and what stands there.
func room(l []api.Constraint) []api.Constraint {
	return append(slices.Clone(l), text("room", "a"), text("room", "b"))[:len(l)]
}

// roomy is full, with room behind each list, and what stands there.
func roomy() api.Broker {
	b := full()
	for _, p := range preds(b) {
		*p = room(*p)
	}
	b.Near = append(b.Near, 88, 88)[:len(b.Near)]
	b.Seen = append(b.Seen, fresh, id(88, 1))[:len(b.Seen)]
	b.Adverts = append(b.Adverts, advert(id(88, 0), 1, text("room", "c")), advert(id(88, 1), 1))[:len(b.Adverts)]
	b.Entries = append(b.Entries, entry(second, id(88, 0), 1, true), entry(id(88, 0), id(0, 1), 1, true))[:len(b.Entries)]
	b.Owns = append(b.Owns, own(id(8, 0)), own(id(88, 1), text("room", "d")))[:len(b.Owns)]
	return b
}

// whole is all that stands in b's memory, in its spare room too.
func whole(b api.Broker) string {
	b.Near, b.Seen = b.Near[:cap(b.Near)], b.Seen[:cap(b.Seen)]
	b.Adverts, b.Entries, b.Owns = b.Adverts[:cap(b.Adverts)], b.Entries[:cap(b.Entries)], b.Owns[:cap(b.Owns)]
	s := told(b)
	for _, p := range preds(b) {
		s += fmt.Sprint((*p)[:cap(*p)])
	}
	return s
}

// call is one of the package's, of a broker and a predicate.
type call func(b api.Broker, p []api.Constraint) (api.Broker, []api.Out)

// calls is all that change something.
func calls() []call {
	return []call{
		func(b api.Broker, p []api.Constraint) (api.Broker, []api.Out) {
			return route.Subscribe(b, id(8, 0), p)
		},
		func(b api.Broker, p []api.Constraint) (api.Broker, []api.Out) {
			return route.Subscribe(b, id(0, 0), p)
		},
		func(b api.Broker, p []api.Constraint) (api.Broker, []api.Out) {
			return route.OnSub(b, 6, sub(first, id(8, 0), p...))
		},
		func(b api.Broker, p []api.Constraint) (api.Broker, []api.Out) {
			return route.OnSub(b, 0, api.Message{Kind: api.MSub, Tree: second, ID: id(0, 0), Pred: p})
		},
		func(b api.Broker, p []api.Constraint) (api.Broker, []api.Out) {
			return route.Unsubscribe(b, id(6, 2))
		},
		func(b api.Broker, p []api.Constraint) (api.Broker, []api.Out) {
			return route.Unsubscribe(b, id(7, 0))
		},
		func(b api.Broker, p []api.Constraint) (api.Broker, []api.Out) {
			return route.OnUnsub(b, 0, unsub(first, id(0, 3)))
		},
		func(b api.Broker, p []api.Constraint) (api.Broker, []api.Out) {
			return route.OnUnsub(b, 6, unsub(first, id(0, 4)))
		},
	}
}

// R2, R5: what is handed in isn't changed, its spare room included, nor is that read.
func TestWhatIsHandedInStays(t *testing.T) {
	for i, do := range calls() {
		for _, l := range pool() {
			b, p := roomy(), room(l)
			got, out := do(b, p)
			want, wantOut := do(full(), slices.Clone(l))
			if whole(b) != whole(roomy()) || told(p[:cap(p)]) != told(room(l)[:cap(p)]) {
				t.Error(i, "changed:", b, p)
			}
			if told(got) != told(want) || told(out) != told(wantOut) {
				t.Error(i, "spare room is read:", got, out)
			}
		}
	}
}

// R2: nothing of what was handed in is kept, and an answer is new memory.
func TestAnswersAreNew(t *testing.T) {
	for i, do := range calls() {
		// one that meets all trees, and one that meets none
		for _, l := range [][]api.Constraint{list(span("a", 0, 50)), list(text("a", "x"), text("b", "x"))} {
			askNew(t, i, do, l)
		}
	}
}

func askNew(t *testing.T, i int, do call, l []api.Constraint) {
	b, p := roomy(), room(l)
	got, out := do(b, p)
	want, wantOut := told(got), told(out)
	spoilAll(b)
	if spoil(p, text("spoilt", "spoilt")); told(got) != want || told(out) != wantOut {
		t.Error(i, "kept:", got, out)
	}
	if spoilOut(out); told(got) != want {
		t.Error(i, "two lists share:", got)
	}
	b, p = roomy(), room(l)
	got, out = do(b, p)
	if spoilAll(got); told(out) != wantOut {
		t.Error(i, "two lists share:", out)
	}
	if spoilOut(out); whole(b) != whole(roomy()) || told(p[:cap(p)]) != told(room(l)[:cap(p)]) {
		t.Error(i, "shared:", b, p)
	}
}

// R2: no two lists of one answer share any: neither two messages, nor two rows.
func TestListsApart(t *testing.T) {
	for i, do := range calls() {
		b, out := do(full(), list(span("a", 0, 50)))
		for k := range out {
			rest := told(out[k+1:])
			if spoil(out[k].M.Pred, text("spoilt", "spoilt")); told(out[k+1:]) != rest {
				t.Error(i, k, out)
			}
		}
		for k, p := range preds(b) {
			was := *p
			*p = nil
			rest := told(b)
			if spoil(was, text("spoilt", "spoilt")); told(b) != rest {
				t.Error(i, k, b)
			}
			*p = was
		}
	}
}

// What is made from one broker twice doesn't meet, whatever is done to either.
func TestTwoOfOne(t *testing.T) {
	b := full()
	one, _ := route.Subscribe(b, id(8, 0), nil)
	other, _ := route.Subscribe(b, id(8, 1), nil)
	end, _ := route.Unsubscribe(one, id(8, 0))
	if told(b) != told(full()) || len(one.Owns) != 5 || len(other.Owns) != 5 || one.Owns[4].ID != id(8, 0) || other.Owns[4].ID != id(8, 1) {
		t.Error(one, other, b)
	}
	if told(end) != told(b) {
		t.Error(end)
	}
	one, _ = route.OnUnsub(b, 0, unsub(first, id(0, 3)))
	other, _ = route.OnSub(b, 6, sub(first, id(0, 0)))
	if told(b) != told(full()) || len(one.Entries) != 10 || len(other.Entries) != 12 {
		t.Error(one, other, b)
	}
}

// R4: nil and empty lists mean the same.
func TestNilAndEmpty(t *testing.T) {
	empty := api.Broker{Near: []int{2, 3}, Seen: []api.ID{first}, Adverts: []api.Advert{{ID: first, Pred: list(), Parent: 2}}, Entries: []api.Entry{}, Owns: []api.Own{}}
	bare := api.Broker{Near: []int{2, 3}, Seen: []api.ID{first}, Adverts: []api.Advert{{ID: first, Parent: 2}}}
	same := func(one, other api.Broker, out, too []api.Out) {
		if !adverts.Same(one, other) || told(out) != told(too) {
			t.Error(one, other, out, too)
		}
	}
	one, out := route.Subscribe(empty, id(8, 0), []api.Constraint{})
	other, too := route.Subscribe(bare, id(8, 0), nil)
	same(one, other, out, too)
	one, out = route.OnSub(one, 3, api.Message{Kind: api.MSub, Tree: first, ID: id(9, 0), Pred: []api.Constraint{}, Attrs: []api.Attr{}})
	other, too = route.OnSub(other, 3, sub(first, id(9, 0)))
	same(one, other, out, too)
	one, out = route.Unsubscribe(one, id(8, 0))
	other, too = route.Unsubscribe(other, id(8, 0))
	same(one, other, out, too)
	if len(out) != 2 {
		t.Error(out)
	}
	one, out = route.OnUnsub(one, 3, api.Message{Kind: api.MUnsub, Tree: first, ID: id(9, 0), Pred: []api.Constraint{}, Attrs: []api.Attr{}})
	other, too = route.OnUnsub(other, 3, unsub(first, id(9, 0)))
	same(one, other, out, too)
	same(one, empty, out, []api.Out{{To: 2, M: unsub(first, id(9, 0))}})
}

// crooked is brokers that are not right.
func crooked() []api.Broker {
	var l []api.Broker
	for _, do := range []func(b *api.Broker){
		func(b *api.Broker) { slices.Reverse(b.Entries) },
		func(b *api.Broker) { slices.Reverse(b.Owns) },
		func(b *api.Broker) { slices.Reverse(b.Adverts) },
		func(b *api.Broker) { b.Owns = append(b.Owns, b.Owns...) },
		func(b *api.Broker) {
			b.Entries = append(b.Entries, entry(fresh, id(6, 0), 1, true), entry(fresh, id(0, 0), 6, true))
		},
		func(b *api.Broker) { b.Near = []int{6, 6, math.MaxInt, -1, 0, math.MinInt} },
		func(b *api.Broker) { b.Near, b.Seen, b.Adverts = nil, nil, nil },
		func(b *api.Broker) { b.Adverts = append(b.Adverts, b.Adverts...) },
		func(b *api.Broker) {
			for i := range b.Adverts {
				b.Adverts[i].Parent = odd()[i]
			}
			for i := range b.Entries {
				b.Entries[i].Up = i%2 == 0
			}
		},
		func(b *api.Broker) {
			for _, p := range preds(*b) {
				*p = list(api.Constraint{}, span("", 3, 1), span("a", 2, 1), span("a", 1, 2), begin("a", "abcdefghijklmnop"), api.Constraint{Name: "a", Kind: 99})
			}
		},
	} {
		b := full()
		do(&b)
		l = append(l, b)
	}
	return l
}

// R1: whatever is given, every call ends, and none panics.
func TestOfWhateverEnds(t *testing.T) {
	wrong := [][]api.Constraint{nil, {{}}, {span("a", 2, 1)}, {span("a", 1, 9), span("a", 1, 9)}, {begin("\x00", "\xff")}, {{Name: "b", Kind: -1, Lo: 3, Text: "q"}}}
	attrs := []api.Attr{{}, {Name: "\xff", Value: api.Value{IsText: true, N: 3}}}
	ids := []api.ID{{}, first, second, gone, id(0, 3), id(6, 0), id(7, 0), id(math.MaxInt, math.MinInt)}
	for _, b := range append(crooked(), full(), api.Broker{}) {
		was := whole(b)
		for _, x := range ids {
			route.Unsubscribe(b, x)
			for _, p := range wrong {
				route.Subscribe(b, x, p)
			}
			for _, from := range append(odd(), 6) {
				for _, tree := range append(ids, root, fresh, id(from, from)) {
					for i, p := range wrong {
						m := api.Message{Kind: odd()[2*i], Tree: tree, ID: x, Pred: p, Attrs: attrs}
						route.OnSub(b, from, m)
						route.OnUnsub(b, from, m)
					}
				}
			}
		}
		if whole(b) != was {
			t.Error("changed:", b)
		}
	}
}

func TestLongRows(t *testing.T) {
	const long = 1 << 8
	b := adverts.New(0, 1, 2, 3)
	for i := range long {
		b, _ = flood.Advertise(b, 1+i%2, id(1, i), list(span("a", i, i+1)))
	}
	b, out := route.Subscribe(b, id(2, 0), list(span("a", 50, 99)))
	if len(out) != 51 || len(b.Entries) != 51 || out[0].M.Tree != id(1, 49) || out[0].To != 2 || out[50].M.Tree != id(1, 99) {
		t.Error(len(out), len(b.Entries))
	}
	b, out = route.Unsubscribe(b, id(2, 0))
	if len(out) != 51 || len(b.Entries)+len(b.Owns) > 0 || out[50].M.Tree != id(1, 99) {
		t.Error(len(out), len(b.Entries))
	}
	b, _ = route.OnSub(b, 3, sub(id(1, 0), id(9, 0)))
	for i := range long {
		b, out = route.OnSub(b, 3, sub(id(1, 0), id(8, long-i), span("a", i, i)))
		if len(out) > 0 {
			t.Error(i, out)
		}
	}
	b, out = route.OnUnsub(b, 3, unsub(id(1, 0), id(9, 0)))
	if len(out) != long+1 || len(b.Entries) != long || out[0].M.ID != id(8, 1) || out[long-1].M.ID != id(8, long) || out[long].M.Kind != api.MUnsub {
		t.Error(len(out), len(b.Entries))
	}
}
