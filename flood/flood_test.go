package flood_test

import (
	"fmt"
	"math"
	"slices"
	"strings"
	"testing"

	"broadside/adverts"
	"broadside/api"
	"broadside/flood"
	"broadside/graph"
	"broadside/rel"
	"broadside/subs"
	"broadside/value"
	"broadside/wire"
)

func id(client, seq int) api.ID { return api.ID{Client: client, Seq: seq} }

func list(l ...api.Constraint) []api.Constraint { return l }

func span(name string, lo, hi int) api.Constraint {
	return api.Constraint{Name: name, Kind: api.CRange, Lo: lo, Hi: hi}
}

func text(name, s string) api.Constraint {
	return api.Constraint{Name: name, Kind: api.CText, Text: s}
}

func begin(name, s string) api.Constraint {
	return api.Constraint{Name: name, Kind: api.CPrefix, Text: s}
}

func advert(x api.ID, parent int, l ...api.Constraint) api.Advert {
	return api.Advert{ID: x, Pred: l, Parent: parent}
}

func entry(tree, sub api.ID, from int, up bool, l ...api.Constraint) api.Entry {
	return api.Entry{Tree: tree, Sub: sub, Pred: l, From: from, Up: up}
}

func own(x api.ID, l ...api.Constraint) api.Own { return api.Own{ID: x, Pred: l} }

// told is all that is in x; nil and empty lists are told the same.
func told(x any) string { return fmt.Sprintf("%+v", x) }

// lines is the kind of each message, its IDs, and where it goes.
func lines(out []api.Out) string {
	var l []string
	for _, o := range out {
		name := map[int]string{api.MAdv: "adv", api.MUnadv: "unadv", api.MSub: "sub"}[o.M.Kind]
		s := fmt.Sprintf("%s(%d,%d)", name, o.M.Tree.Client, o.M.Tree.Seq)
		if o.M.Kind == api.MSub {
			s += fmt.Sprintf("(%d,%d)", o.M.ID.Client, o.M.ID.Seq)
		}
		l = append(l, fmt.Sprintf("%s>%d", s, o.To))
	}
	return strings.Join(l, " ")
}

// The trees of full: one from 1, one of its own, one from 4. One more is gone,
// and one is not known yet.
var first, root, second, gone, fresh = id(1, 2), id(1, 5), id(2, 0), id(1, 3), id(1, 7)

// full is a right and tight broker with some of everything.
func full() api.Broker {
	return api.Broker{
		Me:      3,
		Near:    []int{0, 1, 4, 6},
		Adverts: []api.Advert{advert(first, 1, span("a", 1, 9)), advert(root, api.Local, span("a", 1, 1)), advert(second, 4)},
		Seen:    []api.ID{id(0, 7), first, gone, root, second},
		Entries: []api.Entry{
			entry(first, id(0, 3), 0, true, span("a", 1, 9)),
			entry(first, id(6, 0), api.Local, false, span("a", 1, 9)),
			entry(first, id(6, 2), api.Local, false, span("a", 2, 3)),
			entry(first, id(6, 3), api.Local, true, begin("b", "x")),
			entry(root, id(0, 3), 0, false, span("a", 1, 9)),
			entry(root, id(6, 0), api.Local, false, span("a", 1, 9)),
			entry(second, id(0, 4), 1, true),
			entry(second, id(6, 0), api.Local, false, span("a", 1, 9)),
			entry(second, id(6, 2), api.Local, false, span("a", 2, 3)),
		},
		Owns: []api.Own{
			own(id(6, 0), span("a", 1, 9)),
			own(id(6, 2), span("a", 2, 3)),
			own(id(6, 3), begin("b", "x")),
			own(id(7, 0), span("c", 0, 0), span("d", 0, 0), span("e", 0, 0)),
			own(id(7, 1), text("b", "xy"), span("c", 5, 6)),
		},
	}
}

// odd is numbers of all sizes.
func odd() []int {
	return []int{math.MinInt, math.MinInt + 1, -2, -1, 0, 1, 2, 63, 64, math.MaxInt - 1, math.MaxInt}
}

func TestFullIsRight(t *testing.T) {
	if !adverts.Right(full()) || !subs.Tight(full()) {
		t.Fatal(full())
	}
}

// P11.1

// messages is one of each kind, and some that are none.
func messages() []api.Message {
	p, l := list(span("a", 1, 2), text("b", "x")), []api.Attr{{Name: "a", Value: value.Number(1)}, {Name: "b", Value: value.Text("x")}}
	return []api.Message{
		{Kind: api.MAdv, Tree: first, Pred: p},
		{Kind: api.MUnadv, Tree: first},
		{Kind: api.MSub, Tree: first, ID: second, Pred: p},
		{Kind: api.MUnsub, Tree: first, ID: second},
		{Kind: api.MPub, Tree: first, ID: second, Attrs: l},
		{},
		{Kind: -7, Tree: id(-1, math.MinInt), ID: id(math.MaxInt, 0), Pred: p, Attrs: l},
	}
}

func TestOthers(t *testing.T) {
	for set := range 1 << 4 {
		var near []int
		for i, n := range []int{0, 1, 4, 9} {
			if set&(1<<i) > 0 {
				near = append(near, n)
			}
		}
		for _, b := range []api.Broker{adverts.New(3, near...), {Me: 3, Near: near, Adverts: full().Adverts, Entries: full().Entries}} {
			for _, but := range append(odd(), 3, 4, 9) {
				for _, m := range messages() {
					var want []api.Out
					for _, to := range near {
						if to != but {
							want = append(want, api.Out{To: to, M: m})
						}
					}
					if got := flood.Others(b, but, m); told(got) != told(want) {
						t.Error(near, but, m, got)
					}
				}
			}
		}
	}
}

func TestOthersOfNobody(t *testing.T) {
	for _, m := range messages() {
		if len(flood.Others(adverts.New(3), api.Local, m))+len(flood.Others(api.Broker{}, 0, m))+len(flood.Others(adverts.New(3, 5), 5, m)) > 0 {
			t.Error(m)
		}
	}
}

func TestSub(t *testing.T) {
	for _, e := range append(full().Entries, entry(id(math.MinInt, -1), id(math.MaxInt, 0), 99, true, api.Constraint{}), api.Entry{}) {
		for _, e.Up = range []bool{false, true} {
			want := api.Message{Kind: api.MSub, Tree: e.Tree, ID: e.Sub, Pred: e.Pred}
			if got := flood.Sub(e); told(got) != told(want) {
				t.Error(e, got)
			}
		}
	}
	// Which is the tree, and which the subscription, is not the same.
	if m := flood.Sub(entry(id(1, 2), id(3, 4), 5, true, span("a", 6, 7))); m.Tree != id(1, 2) || m.ID != id(3, 4) || !wire.Right(m) {
		t.Error(m)
	}
}

// P11.2

func TestAdvertise(t *testing.T) {
	for i, q := range []struct {
		from int
		p    []api.Constraint
		subs string // those that go to from, in order
		in   []int  // which of Owns are in the tree
		ups  string // which of them are Up
	}{
		// a:1..9 is passed on, and covers a:2..3 behind it; b^"x" covers b="xy", c:5..6
		{1, list(span("a", 0, 5)), "0 2 3", []int{0, 1, 2, 3, 4}, "+-++-"},
		{6, list(span("a", 3, 3)), "0 2 3", []int{0, 1, 2, 3, 4}, "+-++-"},
		{0, nil, "0 2 3", []int{0, 1, 2, 3, 4}, "+-++-"},
		// some are apart from it: beside a range, of the other kind, by text and by prefix
		{0, list(span("a", 9, 20)), "0 2 3", []int{0, 2, 3, 4}, "+++-"},
		{0, list(span("a", 10, 20)), "2 3", []int{2, 3, 4}, "++-"},
		{4, list(span("a", -5, 0)), "2 3", []int{2, 3, 4}, "++-"},
		{4, list(text("a", "x")), "2 3", []int{2, 3, 4}, "++-"},
		{1, list(text("b", "xy")), "0 2 3", []int{0, 1, 2, 3, 4}, "+-++-"},
		{1, list(text("b", "xz")), "0 2 3", []int{0, 1, 2, 3}, "+-++"},
		{1, list(begin("b", "xyz")), "0 2 3", []int{0, 1, 2, 3}, "+-++"},
		{1, list(span("b", 1, 1)), "0 3", []int{0, 1, 3}, "+-+"},
		{1, list(span("c", 0, 0)), "0 2 3", []int{0, 1, 2, 3}, "+-++"},
		{1, list(span("c", 5, 5)), "0 2", []int{0, 1, 2, 4}, "+-+-"},
		{1, list(text("b", "y"), span("c", 9, 9)), "0", []int{0, 1}, "+-"},
		{1, list(span("a", 50, 60), text("b", "y")), "3", []int{3}, "+"},
		{1, list(span("a", 50, 60), text("b", "y"), span("c", 1, 1)), "", nil, ""},
		// no publication has more than five names
		{1, list(span("f", 0, 0), span("g", 0, 0)), "0 2 3", []int{0, 1, 2, 3, 4}, "+-++-"},
		{1, list(span("f", 0, 0), span("g", 0, 0), span("h", 0, 0)), "0 2", []int{0, 1, 2, 4}, "+-+-"},
		{1, list(span("f", 0, 0), span("g", 0, 0), span("h", 0, 0), span("i", 0, 0)), "0 2", []int{0, 1, 2}, "+-+"},
		{1, list(span("f", 0, 0), span("g", 0, 0), span("h", 0, 0), span("i", 0, 0), span("j", 0, 0)), "", nil, ""},
		// above a root there is nobody that anything goes to
		{api.Local, list(span("a", 0, 5)), "", []int{0, 1, 2, 3, 4}, "-----"},
		{api.Local, list(span("a", 10, 20)), "", []int{2, 3, 4}, "---"},
		{api.Local, list(span("a", 50, 60), text("b", "y"), span("c", 1, 1)), "", nil, ""},
	} {
		want := full()
		want.Adverts = slices.Insert(want.Adverts, 2, advert(fresh, q.from, q.p...))
		want.Seen = slices.Insert(want.Seen, 4, fresh)
		for k, at := range q.in {
			want.Entries = slices.Insert(want.Entries, 6+k, entry(fresh, full().Owns[at].ID, api.Local, q.ups[k] == '+', full().Owns[at].Pred...))
		}
		var wantOut []api.Out
		for _, to := range full().Near {
			if to != q.from {
				wantOut = append(wantOut, api.Out{To: to, M: api.Message{Kind: api.MAdv, Tree: fresh, Pred: q.p}})
			}
		}
		for _, s := range strings.Fields(q.subs) {
			o := full().Owns[s[0]-'0']
			wantOut = append(wantOut, api.Out{To: q.from, M: api.Message{Kind: api.MSub, Tree: fresh, ID: o.ID, Pred: o.Pred}})
		}
		b, out := flood.Advertise(full(), q.from, fresh, q.p)
		if told(b) != told(want) || !adverts.Right(b) || !subs.Tight(b) {
			t.Error(i, b)
		}
		if told(out) != told(wantOut) {
			t.Error(i, out)
		}
	}
}

// What was ever taken is passed over: what is known, and what is gone; from
// wherever, with whatever predicate.
func TestAdvertisePassesOver(t *testing.T) {
	for _, x := range full().Seen {
		for _, from := range []int{api.Local, 0, 1, 4, 6} {
			for _, p := range [][]api.Constraint{nil, list(span("a", 1, 9)), list(text("q", "q"))} {
				if b, out := flood.Advertise(full(), from, x, p); len(out) > 0 || told(b) != told(full()) {
					t.Error(x, from, p, b, out)
				}
			}
		}
	}
}

// Where it came from first is its parent: what comes then changes nothing.
func TestFirstComeFirstKept(t *testing.T) {
	for _, from := range []int{api.Local, 0, 1, 4, 6} {
		b, _ := flood.Advertise(full(), from, fresh, list(span("a", 1, 2)))
		for _, then := range []int{api.Local, 0, 1, 4, 6} {
			again, out := flood.Advertise(b, then, fresh, list(span("a", 1, 9)))
			if a, ok := adverts.Find(again, fresh); len(out) > 0 || told(again) != told(b) || !ok || a.Parent != from {
				t.Error(from, then, again, out)
			}
		}
	}
}

// What the broker keeps of other trees covers nothing of this one; and others'
// subscriptions don't come in by an advertisement: they are sent up by who has them.
func TestAdvertiseAsksOwnsAlone(t *testing.T) {
	b := full()
	b.Owns = nil
	got, out := flood.Advertise(b, 1, fresh, nil)
	if len(subs.Of(got, fresh)) > 0 || lines(out) != "adv(1,7)>0 adv(1,7)>4 adv(1,7)>6" {
		t.Error(got, out)
	}
	b = full()
	for i := range b.Entries {
		b.Entries[i].Pred, b.Entries[i].Up = nil, b.Entries[i].Tree != root
	}
	if _, out = flood.Advertise(b, 6, fresh, list(span("c", 0, 5))); lines(out) != "adv(1,7)>0 adv(1,7)>1 adv(1,7)>4 sub(1,7)(6,0)>6 sub(1,7)(6,3)>6 sub(1,7)(7,0)>6" {
		t.Error(out)
	}
}

// A narrow one goes up, if the wide one stands behind it; then that one, too.
func TestAdvertiseInOrder(t *testing.T) {
	narrow, mid, wide := list(span("a", 2, 2)), list(span("a", 1, 3)), list(span("a", 0, 9))
	for i, q := range []struct {
		rows [3][]api.Constraint
		subs string
	}{
		{[3][]api.Constraint{narrow, mid, wide}, "sub(1,0)(5,0)>2 sub(1,0)(5,1)>2 sub(1,0)(6,0)>2"},
		{[3][]api.Constraint{narrow, wide, mid}, "sub(1,0)(5,0)>2 sub(1,0)(5,1)>2"},
		{[3][]api.Constraint{mid, narrow, wide}, "sub(1,0)(5,0)>2 sub(1,0)(6,0)>2"},
		{[3][]api.Constraint{mid, wide, narrow}, "sub(1,0)(5,0)>2 sub(1,0)(5,1)>2"},
		{[3][]api.Constraint{wide, narrow, mid}, "sub(1,0)(5,0)>2"},
		{[3][]api.Constraint{wide, wide, wide}, "sub(1,0)(5,0)>2"},
		{[3][]api.Constraint{nil, wide, nil}, "sub(1,0)(5,0)>2"},
	} {
		b := adverts.New(0, 1, 2)
		b.Owns = []api.Own{own(id(5, 0), q.rows[0]...), own(id(5, 1), q.rows[1]...), own(id(6, 0), q.rows[2]...)}
		got, out := flood.Advertise(b, 2, id(1, 0), mid)
		if lines(out) != "adv(1,0)>1 "+q.subs || len(subs.Of(got, id(1, 0))) != 3 || !subs.Tight(got) {
			t.Error(i, got, lines(out))
		}
	}
}

// pool is predicates that meet, cover and miss each other in all ways.
func pool() [][]api.Constraint {
	return [][]api.Constraint{
		nil, list(span("a", 0, 1)), list(span("a", 1, 2)), list(span("a", 0, 3)), list(text("a", "x")), list(begin("a", "")),
		list(span("b", 1, 1)), list(span("a", 1, 1), span("b", 1, 1)), list(span("a", 3, 4), span("b", 0, 2)),
	}
}

// samples is publications enough to tell what is in pool apart.
func samples() [][]api.Attr {
	l := [][]api.Attr{nil}
	for n := -1; n <= 5; n++ {
		l = append(l, []api.Attr{{Name: "a", Value: value.Number(n)}}, []api.Attr{{Name: "b", Value: value.Number(n)}})
		for m := -1; m <= 5; m++ {
			l = append(l, []api.Attr{{Name: "a", Value: value.Number(n)}, {Name: "b", Value: value.Number(m)}})
		}
	}
	for _, s := range []string{"", "x", "y"} {
		l = append(l, []api.Attr{{Name: "a", Value: value.Text(s)}}, []api.Attr{{Name: "a", Value: value.Text(s)}, {Name: "b", Value: value.Number(1)}})
	}
	return l
}

// meets says whether one of samples is matched by p and q.
func meets(p, q []api.Constraint) bool {
	return slices.ContainsFunc(samples(), func(l []api.Attr) bool { return rel.Match(p, l) && rel.Match(q, l) })
}

// covers says whether p matches each of samples that q matches.
func covers(p, q []api.Constraint) bool {
	return !slices.ContainsFunc(samples(), func(l []api.Attr) bool { return rel.Match(q, l) && !rel.Match(p, l) })
}

// relations is meets and covers of all pairs of pool.
func relations() (meet, cover [][]bool) {
	all := pool()
	for i, p := range all {
		meet, cover = append(meet, nil), append(cover, nil)
		for _, q := range all {
			meet[i], cover[i] = append(meet[i], meets(p, q)), append(cover[i], covers(p, q))
		}
	}
	return meet, cover
}

// Whichever own subscriptions there are, of whichever predicates: those that
// meet the advertisement's are in its tree, and of these go up that none ahead
// of them that went up covers.
func TestAdvertiseByPlainReckoning(t *testing.T) {
	all, x := pool(), id(3, 3)
	meet, cover := relations()
	for code := range len(all) * len(all) * len(all) {
		which := []int{code % len(all), code / len(all) % len(all), code / len(all) / len(all)}
		b := adverts.New(0, 2, 5)
		for i, k := range which {
			b.Owns = append(b.Owns, own(id(1, i), all[k]...))
		}
		for of, p := range all {
			for _, from := range []int{api.Local, 2, 5} {
				var ups []int
				var in []api.Entry
				want := flood.Others(b, from, api.Message{Kind: api.MAdv, Tree: x, Pred: p})
				for i, k := range which {
					if !meet[of][k] {
						continue
					}
					up := from != api.Local && !slices.ContainsFunc(ups, func(u int) bool { return cover[u][k] })
					in = append(in, entry(x, id(1, i), api.Local, up, all[k]...))
					if up {
						ups = append(ups, k)
						want = append(want, api.Out{To: from, M: api.Message{Kind: api.MSub, Tree: x, ID: id(1, i), Pred: all[k]}})
					}
				}
				got, out := flood.Advertise(b, from, x, p)
				if told(out) != told(want) || told(got.Entries) != told(in) || !adverts.Right(got) || !subs.Tight(got) {
					t.Fatal(which, of, from, got, out)
				}
			}
		}
	}
}

// All that is put out may go over a link.
func TestMessagesAreRight(t *testing.T) {
	for _, from := range []int{api.Local, 0, 1, 4, 6} {
		for _, p := range append(pool(), list(span("f", 0, 0), span("g", 0, 0))) {
			b, out := flood.Advertise(full(), from, fresh, p)
			_, more := flood.Unadvertise(b, from, fresh)
			for _, o := range append(out, more...) {
				if !wire.Right(o.M) || !slices.Contains(b.Near, o.To) {
					t.Error(o)
				}
			}
		}
	}
}

// P11.3

func TestUnadvertise(t *testing.T) {
	for _, a := range full().Adverts {
		want := full()
		want.Adverts = slices.DeleteFunc(want.Adverts, func(x api.Advert) bool { return x.ID == a.ID })
		want.Entries = slices.DeleteFunc(want.Entries, func(e api.Entry) bool { return e.Tree == a.ID })
		var wantOut []api.Out
		for _, to := range full().Near {
			if to != a.Parent {
				wantOut = append(wantOut, api.Out{To: to, M: api.Message{Kind: api.MUnadv, Tree: a.ID}})
			}
		}
		b, out := flood.Unadvertise(full(), a.Parent, a.ID)
		if told(b) != told(want) || told(out) != told(wantOut) || !adverts.Right(b) || !subs.Tight(b) {
			t.Error(a, b, out)
		}
		// Its end comes once; and what is behind it is passed over.
		if again, out := flood.Unadvertise(b, a.Parent, a.ID); len(out) > 0 || told(again) != told(want) {
			t.Error(a, again, out)
		}
		for _, from := range []int{api.Local, 0, 1, 4, 6} {
			if late, out := flood.Advertise(b, from, a.ID, a.Pred); len(out) > 0 || told(late) != told(want) {
				t.Error(a, from, late, out)
			}
		}
	}
}

func TestUnadvertisePassesOver(t *testing.T) {
	froms := append(odd(), 3, 4, 6, 9)
	// from others than it came from
	for _, a := range full().Adverts {
		for _, from := range froms {
			if from == a.Parent {
				continue
			}
			if b, out := flood.Unadvertise(full(), from, a.ID); len(out) > 0 || told(b) != told(full()) {
				t.Error(a, from, b, out)
			}
		}
	}
	// what isn't known: what is gone, what was never there, what is a subscription's
	for _, x := range []api.ID{gone, id(0, 7), fresh, {}, id(6, 0), id(0, 3), id(2, 1), id(math.MinInt, 0), id(math.MaxInt, math.MaxInt)} {
		for _, from := range froms {
			for _, b := range []api.Broker{full(), {}, adverts.New(3, 0, 1)} {
				if got, out := flood.Unadvertise(b, from, x); len(out) > 0 || told(got) != told(b) {
					t.Error(x, from, got, out)
				}
			}
		}
	}
}

// What isn't known can't be ended ahead of its coming: it comes then.
func TestUnadvertiseAhead(t *testing.T) {
	b, _ := flood.Unadvertise(full(), 1, fresh)
	if got, out := flood.Advertise(b, 1, fresh, nil); len(out) == 0 || !adverts.Seen(got, fresh) {
		t.Error(got, out)
	}
}

// The chapter's runs.
func TestRuns(t *testing.T) {
	b := adverts.New(0, 1, 2)
	got, out := flood.Advertise(b, 1, id(7, 0), list(span("a", 1, 5)))
	if lines(out) != "adv(7,0)>2" || len(got.Entries) > 0 {
		t.Error(got, out)
	}
	b.Owns = []api.Own{own(id(8, 0), span("a", 5, 9)), own(id(8, 1), span("a", 6, 9))}
	got, out = flood.Advertise(b, 1, id(7, 0), list(span("a", 1, 5)))
	if lines(out) != "adv(7,0)>2 sub(7,0)(8,0)>1" || told(got.Entries) != told([]api.Entry{entry(id(7, 0), id(8, 0), api.Local, true, span("a", 5, 9))}) {
		t.Error(got, out)
	}
}

// way is a link in one direction, and what waits there.
type way struct {
	from, to int
	waits    []api.Message
}

// web is brokers, their links, and how many of each kind crossed each of these.
type web struct {
	brokers []api.Broker
	ways    []way
	crossed map[[3]int]int
}

func newWeb(g api.Graph) *web {
	w := &web{crossed: map[[3]int]int{}}
	for n := range g.Brokers {
		w.brokers = append(w.brokers, adverts.New(n, graph.Near(g, n)...))
	}
	for _, l := range graph.Ways(g) {
		w.ways = append(w.ways, way{from: l[0], to: l[1]})
	}
	return w
}

// put takes what a broker answered.
func (w *web) put(n int, b api.Broker, out []api.Out) {
	w.brokers[n] = b
	for _, o := range out {
		at := slices.IndexFunc(w.ways, func(x way) bool { return x.from == n && x.to == o.To })
		w.ways[at].waits = append(w.ways[at].waits, o.M)
		w.crossed[[3]int{o.M.Kind, n, o.To}]++
	}
}

// pick does the first message of one of the ways where something waits, which
// one is choice's to say; false, if nothing waits.
func (w *web) pick(choice int) bool {
	var busy []int
	for i, x := range w.ways {
		if len(x.waits) > 0 {
			busy = append(busy, i)
		}
	}
	if len(busy) == 0 {
		return false
	}
	x := &w.ways[busy[choice%len(busy)]]
	m := x.waits[0]
	x.waits = x.waits[1:]
	switch b := w.brokers[x.to]; m.Kind {
	case api.MAdv:
		b, out := flood.Advertise(b, x.from, m.Tree, m.Pred)
		w.put(x.to, b, out)
	case api.MUnadv:
		b, out := flood.Unadvertise(b, x.from, m.Tree)
		w.put(x.to, b, out)
	}
	return true
}

// webs is graphs of all shapes.
func webs() []api.Graph {
	return []api.Graph{
		{Brokers: 1},
		{Brokers: 2, Links: [][2]int{{0, 1}}},
		{Brokers: 3, Links: [][2]int{{0, 1}, {1, 2}, {2, 0}}},
		{Brokers: 4, Links: [][2]int{{0, 1}, {0, 2}, {0, 3}}},
		{Brokers: 5, Links: [][2]int{{0, 1}, {1, 2}, {2, 3}, {3, 4}, {4, 0}, {1, 3}}},
		{Brokers: 6, Links: [][2]int{{0, 1}, {0, 2}, {0, 3}, {0, 4}, {0, 5}, {1, 2}, {1, 3}, {1, 4}, {1, 5}, {2, 3}, {2, 4}, {2, 5}, {3, 4}, {3, 5}, {4, 5}}},
	}
}

// height is how far broker n is from where the tree has its root, by parents.
func height(w *web, x api.ID, n int) int {
	for up := range len(w.brokers) {
		a, ok := adverts.Find(w.brokers[n], x)
		if !ok {
			return -1
		}
		if a.Parent == api.Local {
			return up
		}
		n = a.Parent
	}
	return -1
}

// enough is more picks than the messages of one advertisement, its end, and
// the subscriptions that it brings up can take in webs.
const enough = 200

// run picks at most that many times; false, if something waits still.
func (w *web) run(picks, stride int) bool {
	for step := range picks {
		if !w.pick(step * stride / 3) {
			return true
		}
	}
	return !w.pick(0)
}

// Whatever is picked, the advertisement comes to all, makes a tree, and
// crosses each link once each way at most; and its end undoes it all.
func TestItGoesRound(t *testing.T) {
	x := id(1, 0)
	for _, g := range webs() {
		for seed := range 40 {
			w, top := newWeb(g), seed%g.Brokers
			for n := range w.brokers {
				w.brokers[n].Owns = []api.Own{own(id(2, n), span("a", n, n+3)), own(id(3, n), span("z", 0, n))}
			}
			b, out := flood.Advertise(w.brokers[top], api.Local, x, list(span("a", 1, 5)))
			w.put(top, b, out)
			// Each so often the end comes ahead of the last words of the beginning.
			if seed%4 == 0 {
				w.run(seed/4, seed)
			} else if !w.run(enough, seed) {
				t.Fatal(g, seed, "it doesn't end")
			} else {
				askTree(t, w, x, top)
			}
			b, out = flood.Unadvertise(w.brokers[top], api.Local, x)
			w.put(top, b, out)
			if !w.run(enough, seed+5) {
				t.Fatal(g, seed, "it doesn't end")
			}
			askGone(t, w, x)
		}
	}
}

// askTree asks whether all know x, and their parents lead to top.
func askTree(t *testing.T, w *web, x api.ID, top int) {
	for n, b := range w.brokers {
		if h := height(w, x, n); h < 0 || (h == 0) != (n == top) || !adverts.Right(b) || !subs.Tight(b) {
			t.Error(n, b)
		}
	}
}

// askGone asks whether all knew x, and nobody does, and how often its words
// crossed the links.
func askGone(t *testing.T, w *web, x api.ID) {
	for n, b := range w.brokers {
		if _, still := adverts.Find(b, x); still || len(b.Entries) > 0 || !adverts.Seen(b, x) || len(b.Owns) != 2 {
			t.Error(n, b)
		}
	}
	for l, often := range w.crossed {
		if l[0] != api.MSub && often > 1 {
			t.Error(l, often)
		}
	}
}

// The whole's first example, and its seventh: in a ring of three the
// advertisement comes both ways, and the second one is passed over; so is an
// echo that comes behind the end.
func TestRingOfThree(t *testing.T) {
	x := id(4, 0)
	one, out := flood.Advertise(adverts.New(1, 0, 2), 0, x, nil)
	if lines(out) != "adv(4,0)>2" {
		t.Error(out)
	}
	two, out := flood.Advertise(adverts.New(2, 0, 1), 0, x, nil)
	if lines(out) != "adv(4,0)>1" {
		t.Error(out)
	}
	if b, out := flood.Advertise(one, 2, x, nil); len(out) > 0 || told(b) != told(one) {
		t.Error(b, out)
	}
	end, out := flood.Unadvertise(two, 0, x)
	if lines(out) != "unadv(4,0)>1" {
		t.Error(out)
	}
	if b, out := flood.Unadvertise(one, 2, x); len(out) > 0 || told(b) != told(one) {
		t.Error(b, out)
	}
	if b, out := flood.Advertise(end, 1, x, nil); len(out) > 0 || told(b) != told(end) {
		t.Error(b, out)
	}
}

// preds is where b's predicates stand, those in its spare room too.
func preds(b api.Broker) []*[]api.Constraint {
	var l []*[]api.Constraint
	for i := range b.Adverts[:cap(b.Adverts)] {
		l = append(l, &b.Adverts[:cap(b.Adverts)][i].Pred)
	}
	for i := range b.Entries[:cap(b.Entries)] {
		l = append(l, &b.Entries[:cap(b.Entries)][i].Pred)
	}
	for i := range b.Owns[:cap(b.Owns)] {
		l = append(l, &b.Owns[:cap(b.Owns)][i].Pred)
	}
	return l
}

// spoil writes over the whole of l, its spare room too.
func spoil[T any](l []T, x T) {
	l = l[:cap(l)]
	for i := range l {
		l[i] = x
	}
}

// spoilAll writes over all that b holds.
func spoilAll(b api.Broker) {
	for _, p := range preds(b) {
		spoil(*p, text("spoilt", "spoilt"))
	}
	spoil(b.Near, 77)
	spoil(b.Seen, id(77, 77))
	spoil(b.Adverts, advert(id(77, 77), 77))
	spoil(b.Entries, entry(id(77, 77), id(77, 77), 77, true))
	spoil(b.Owns, own(id(77, 77)))
}

// spoilMessage writes over all that m holds.
func spoilMessage(m api.Message) {
	spoil(m.Pred, text("spoilt", "spoilt"))
	spoil(m.Attrs, api.Attr{Name: "spoilt"})
}

// spoilOut writes over all that out holds.
func spoilOut(out []api.Out) {
	for _, o := range out[:cap(out)] {
		spoilMessage(o.M)
	}
	spoil(out, api.Out{To: 77})
}

// room is l with room behind it, and what stands there.
func room(l []api.Constraint) []api.Constraint {
	return append(slices.Clone(l), text("room", "a"), text("room", "b"))[:len(l)]
}

// roomy is full, with room behind each list, and what stands there.
func roomy() api.Broker {
	b := full()
	for _, p := range preds(b) {
		*p = room(*p)
	}
	b.Near = append(b.Near, 88, 88)[:4]
	b.Seen = append(b.Seen, fresh, id(88, 1))[:5]
	b.Adverts = append(b.Adverts, advert(id(88, 0), 1, text("room", "c")), advert(id(88, 1), 1))[:3]
	b.Entries = append(b.Entries, entry(second, id(88, 0), 1, true), entry(id(88, 0), id(0, 1), 1, true))[:9]
	b.Owns = append(b.Owns, own(id(88, 0)), own(id(88, 1), text("room", "d")))[:5]
	return b
}

// whole is all that stands in b's memory, in its spare room too.
func whole(b api.Broker) string {
	b.Near, b.Seen = b.Near[:cap(b.Near)], b.Seen[:cap(b.Seen)]
	b.Adverts, b.Entries, b.Owns = b.Adverts[:cap(b.Adverts)], b.Entries[:cap(b.Entries)], b.Owns[:cap(b.Owns)]
	s := told(b)
	for _, p := range preds(b) {
		s += fmt.Sprint((*p)[:cap(*p)])
	}
	return s
}

// call is one of the package's, of a broker and a predicate.
type call func(b api.Broker, p []api.Constraint) (api.Broker, []api.Out)

// calls is all that make something.
func calls() []call {
	var l []call
	for _, from := range []int{api.Local, 0, 6} {
		l = append(l, func(b api.Broker, p []api.Constraint) (api.Broker, []api.Out) {
			return flood.Advertise(b, from, fresh, p)
		})
	}
	return append(l,
		func(b api.Broker, p []api.Constraint) (api.Broker, []api.Out) { return flood.Unadvertise(b, 1, first) },
		func(b api.Broker, p []api.Constraint) (api.Broker, []api.Out) {
			return flood.Unadvertise(b, api.Local, root)
		},
		func(b api.Broker, p []api.Constraint) (api.Broker, []api.Out) {
			return api.Broker{}, flood.Others(b, 4, api.Message{Kind: api.MSub, Tree: first, ID: second, Pred: p})
		},
		func(b api.Broker, p []api.Constraint) (api.Broker, []api.Out) {
			return api.Broker{}, []api.Out{{M: flood.Sub(entry(first, second, 4, true, p...))}, {M: flood.Sub(b.Entries[0])}}
		})
}

// R2, R5: what is handed in isn't changed, its spare room included, nor is that read.
func TestWhatIsHandedInStays(t *testing.T) {
	for i, do := range calls() {
		b, p := roomy(), room(list(span("a", 2, 3)))
		got, out := do(b, p)
		want, wantOut := do(full(), list(span("a", 2, 3)))
		if whole(b) != whole(roomy()) || told(p[:cap(p)]) != told(room(list(span("a", 2, 3)))[:cap(p)]) {
			t.Error(i, "changed:", b, p)
		}
		if told(got) != told(want) || told(out) != told(wantOut) {
			t.Error(i, "spare room is read:", got, out)
		}
	}
	l := []api.Attr{{Name: "a"}, {Name: "room"}}
	out := flood.Others(full(), api.Local, api.Message{Kind: api.MPub, Attrs: l[:1]})
	if len(out) != 4 || len(out[3].M.Attrs) != 1 || l[0].Name != "a" || l[1].Name != "room" {
		t.Error(out, l)
	}
}

// R2: nothing of what was handed in is kept, and an answer is new memory.
func TestAnswersAreNew(t *testing.T) {
	for i, do := range calls() {
		some := func() []api.Constraint { return room(list(span("a", 2, 3))) }
		b, p := roomy(), some()
		got, out := do(b, p)
		want, wantOut := told(got), told(out)
		spoilAll(b)
		if spoil(p, text("spoilt", "spoilt")); told(got) != want || told(out) != wantOut {
			t.Error(i, "kept:", got, out)
		}
		if spoilOut(out); told(got) != want {
			t.Error(i, "two lists share:", got)
		}
		b, p = roomy(), some()
		got, out = do(b, p)
		if spoilAll(got); told(out) != wantOut {
			t.Error(i, "two lists share:", out)
		}
		if spoilOut(out); whole(b) != whole(roomy()) || told(p[:cap(p)]) != told(some()[:cap(p)]) {
			t.Error(i, "shared:", b, p)
		}
	}
}

// R2: no two messages of one answer share any.
func TestMessagesApart(t *testing.T) {
	attrs := []api.Attr{{Name: "a"}, {Name: "b"}}
	for i, do := range append(calls(), func(b api.Broker, p []api.Constraint) (api.Broker, []api.Out) {
		return b, flood.Others(b, api.Local, api.Message{Kind: api.MPub, Attrs: attrs, Pred: p})
	}) {
		_, out := do(full(), list(span("a", 2, 3)))
		for k := range out {
			rest := told(out[k+1:])
			if spoilMessage(out[k].M); told(out[k+1:]) != rest {
				t.Error(i, k, out)
			}
		}
	}
	if attrs[0].Name != "a" || attrs[1].Name != "b" {
		t.Error(attrs)
	}
}

// What is made from one broker twice doesn't meet, whatever is done to either.
func TestTwoOfOne(t *testing.T) {
	b := full()
	one, _ := flood.Advertise(b, 0, id(3, 0), nil)
	other, _ := flood.Advertise(b, 6, id(3, 1), nil)
	end, _ := flood.Unadvertise(one, 0, id(3, 0))
	if adverts.Seen(one, id(3, 1)) || adverts.Seen(other, id(3, 0)) || len(subs.Of(one, id(3, 0))) != 5 || told(b) != told(full()) {
		t.Error(one, other, b)
	}
	if told(end.Adverts) != told(b.Adverts) || told(end.Entries) != told(b.Entries) || len(end.Seen) != 6 {
		t.Error(end)
	}
}

// R4: nil and empty lists mean the same.
func TestNilAndEmpty(t *testing.T) {
	empty := func() api.Broker {
		return api.Broker{Near: []int{}, Adverts: []api.Advert{}, Seen: []api.ID{}, Entries: []api.Entry{}, Owns: []api.Own{{ID: id(1, 1), Pred: list()}}}
	}
	bare := api.Broker{Owns: []api.Own{{ID: id(1, 1)}}}
	for _, near := range [][]int{nil, {2}, {2, 3}} {
		a, b := empty(), bare
		a.Near, b.Near = append(a.Near, near...), near
		one, out := flood.Advertise(a, 2, first, []api.Constraint{})
		other, too := flood.Advertise(b, 2, first, nil)
		if !adverts.Same(one, other) || told(out) != told(too) || len(one.Entries) != 1 || !one.Entries[0].Up {
			t.Error(near, one, other, out, too)
		}
		one, out = flood.Unadvertise(one, 2, first)
		other, too = flood.Unadvertise(other, 2, first)
		if !adverts.Same(one, other) || told(out) != told(too) || len(one.Adverts) > 0 {
			t.Error(near, one, other, out, too)
		}
	}
	if m := flood.Sub(api.Entry{Pred: list()}); !wire.Same(m, flood.Sub(api.Entry{})) {
		t.Error(m)
	}
}

// crooked is brokers that are not right.
func crooked() []api.Broker {
	var l []api.Broker
	for _, do := range []func(b *api.Broker){
		func(b *api.Broker) { slices.Reverse(b.Entries) },
		func(b *api.Broker) { slices.Reverse(b.Owns) },
		func(b *api.Broker) { b.Owns = append(b.Owns, b.Owns...) },
		func(b *api.Broker) {
			b.Entries = append(b.Entries, entry(fresh, id(6, 0), 1, true), entry(fresh, id(0, 0), 6, true))
		},
		func(b *api.Broker) { b.Near = []int{6, 6, math.MaxInt, -1, 0, math.MinInt} },
		func(b *api.Broker) { b.Near, b.Seen = nil, nil },
		func(b *api.Broker) { b.Adverts = append(b.Adverts, b.Adverts...) },
		func(b *api.Broker) {
			for i := range b.Owns {
				b.Owns[i].Pred = list(api.Constraint{}, span("", 3, 1), span("a", 2, 1), span("a", 1, 2), begin("a", "abcdefghijklmnop"), api.Constraint{Name: "a", Kind: 99})
			}
		},
	} {
		b := full()
		do(&b)
		l = append(l, b)
	}
	return l
}

// R1: whatever is given, every call ends, and none panics.
func TestOfWhateverEnds(t *testing.T) {
	wrong := [][]api.Constraint{nil, {{}}, {span("a", 2, 1)}, {span("a", 1, 9), span("a", 1, 9)}, {begin("\x00", "\xff")}, {{Name: "b", Kind: -1, Lo: 3, Text: "q"}}}
	for _, b := range append(crooked(), full(), api.Broker{}) {
		for _, from := range append(odd(), 6) {
			for _, x := range []api.ID{id(from, from), first, root, second, gone, fresh, {}} {
				for _, p := range wrong {
					seen := adverts.Seen(b, x)
					got, out := flood.Advertise(b, from, x, p)
					if seen && (len(out) > 0 || told(got) != told(b)) || !adverts.Seen(got, x) {
						t.Error(b, from, x, p, got, out)
					}
					flood.Sub(entry(x, id(from, 0), from, true, p...))
				}
				got, out := flood.Unadvertise(b, from, x)
				if len(out) > 0 && told(got) == told(b) {
					t.Error(b, from, x, got, out)
				}
			}
		}
	}
}

func TestLongRows(t *testing.T) {
	const long = 1 << 9
	b := api.Broker{}
	for i := range long {
		b.Near = append(b.Near, i)
		b.Owns = append(b.Owns, own(id(1, i), span("a", i, i+1)))
	}
	got, out := flood.Advertise(b, 7, first, list(span("a", 0, 100)))
	if len(out) != long-1+101 || out[long-2].To != long-1 || out[long-1].M.ID != id(1, 0) || out[long-1].To != 7 || len(got.Entries) != 101 {
		t.Error(len(out), len(got.Entries))
	}
	if got, out = flood.Unadvertise(got, 7, first); len(out) != long-1 || len(got.Entries) > 0 || len(got.Owns) != long {
		t.Error(len(out), len(got.Entries))
	}
}
