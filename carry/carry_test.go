package carry_test

import (
	"fmt"
	"math"
	"slices"
	"strings"
	"testing"

	"broadside/adverts"
	"broadside/api"
	"broadside/carry"
	"broadside/flood"
	"broadside/graph"
	"broadside/rel"
	"broadside/route"
	"broadside/subs"
	"broadside/value"
	"broadside/wire"
)

func id(client, seq int) api.ID { return api.ID{Client: client, Seq: seq} }

func list(l ...api.Constraint) []api.Constraint { return l }

func span(name string, lo, hi int) api.Constraint {
	return api.Constraint{Name: name, Kind: api.CRange, Lo: lo, Hi: hi}
}

func text(name, s string) api.Constraint {
	return api.Constraint{Name: name, Kind: api.CText, Text: s}
}

func begin(name, s string) api.Constraint {
	return api.Constraint{Name: name, Kind: api.CPrefix, Text: s}
}

func attrs(l ...api.Attr) []api.Attr { return l }

func num(name string, n int) api.Attr { return api.Attr{Name: name, Value: value.Number(n)} }

func word(name, s string) api.Attr { return api.Attr{Name: name, Value: value.Text(s)} }

func advert(x api.ID, parent int, l ...api.Constraint) api.Advert {
	return api.Advert{ID: x, Pred: l, Parent: parent}
}

func entry(tree, sub api.ID, from int, up bool, l ...api.Constraint) api.Entry {
	return api.Entry{Tree: tree, Sub: sub, Pred: l, From: from, Up: up}
}

func own(x api.ID, l ...api.Constraint) api.Own { return api.Own{ID: x, Pred: l} }

// pub is the message of a publication on a tree.
func pub(tree, x api.ID, l ...api.Attr) api.Message {
	return api.Message{Kind: api.MPub, Tree: tree, ID: x, Attrs: l}
}

// told is all that is in x; nil and empty lists are told the same.
func told(x any) string { return fmt.Sprintf("%+v", x) }

// links is where out goes, and clients who gets something of got.
func links(out []api.Out) []int {
	var l []int
	for _, o := range out {
		l = append(l, o.To)
	}
	return l
}

func clients(got []api.Delivery) []int {
	var l []int
	for _, d := range got {
		l = append(l, d.Client)
	}
	return l
}

// The trees of full: one from 1, one of its own, one from 4. One more is gone,
// and one is not known yet.
var first, root, second, gone, fresh = id(1, 2), id(1, 5), id(2, 0), id(1, 3), id(1, 7)

// full is a right and tight broker with some of everything. In first, links
// don't rise as subscriptions do, and some come several times.
func full() api.Broker {
	return api.Broker{
		Me:      3,
		Near:    []int{0, 1, 4, 6, 9},
		Adverts: []api.Advert{advert(first, 1, span("a", 1, 9)), advert(root, api.Local, span("a", 1, 9)), advert(second, 4)},
		Seen:    []api.ID{id(0, 7), first, gone, root, second},
		Entries: []api.Entry{
			entry(first, id(0, 1), 9, true, span("a", 1, 9)),
			entry(first, id(0, 2), 4, false, span("a", 2, 5)),
			entry(first, id(0, 3), 6, false, span("a", 4, 9), span("b", 1, 1)),
			entry(first, id(0, 4), 4, false, span("a", 5, 6)),
			entry(first, id(0, 6), 0, true, text("b", "x")),
			entry(first, id(6, 0), api.Local, false, span("a", 1, 3)),
			entry(first, id(6, 1), api.Local, false, span("a", 3, 9)),
			entry(first, id(7, 0), api.Local, true, begin("b", "x")),
			entry(root, id(0, 2), 4, false, span("a", 2, 5)),
			entry(root, id(0, 5), 1, false, span("a", 5, 9)),
			entry(root, id(6, 0), api.Local, false, span("a", 1, 3)),
			entry(root, id(6, 1), api.Local, false, span("a", 3, 9)),
			entry(root, id(7, 0), api.Local, false, begin("b", "x")),
			entry(second, id(0, 7), 1, true),
			entry(second, id(6, 0), api.Local, false, span("a", 1, 3)),
			entry(second, id(6, 1), api.Local, false, span("a", 3, 9)),
			entry(second, id(7, 0), api.Local, false, begin("b", "x")),
			entry(second, id(8, 3), api.Local, false, span("c", 0, 0)),
		},
		Owns: []api.Own{
			own(id(6, 0), span("a", 1, 3)),
			own(id(6, 1), span("a", 3, 9)),
			own(id(7, 0), begin("b", "x")),
			own(id(8, 3), span("c", 0, 0)),
		},
	}
}

// odd is numbers of all sizes.
func odd() []int {
	return []int{math.MinInt, math.MinInt + 1, -2, -1, 0, 1, 2, 63, 64, math.MaxInt - 1, math.MaxInt}
}

func TestFullIsRight(t *testing.T) {
	if !adverts.Right(full()) || !subs.Tight(full()) {
		t.Fatal(full())
	}
}

// cases is publications, where they go in each of the trees of full, and who
// gets them.
func cases() []struct {
	l                   []api.Attr
	first, root, second []int
	clients             []int
} {
	type row = struct {
		l                   []api.Attr
		first, root, second []int
		clients             []int
	}
	return []row{
		// none but a predicate without constraints matches these
		{nil, nil, nil, []int{1}, nil},
		{attrs(num("z", 5)), nil, nil, []int{1}, nil},
		{attrs(num("aa", 5)), nil, nil, []int{1}, nil},
		{attrs(num("a", 0)), nil, nil, []int{1}, nil},
		{attrs(num("a", 10)), nil, nil, []int{1}, nil},
		{attrs(num("a", math.MaxInt)), nil, nil, []int{1}, nil},
		{attrs(num("a", math.MinInt)), nil, nil, []int{1}, nil},
		// the other kind of value
		{attrs(word("a", "5")), nil, nil, []int{1}, nil},
		{attrs(num("b", 1)), nil, nil, []int{1}, nil},
		// ranges, at their ends and beside them
		{attrs(num("a", 1)), []int{9}, nil, []int{1}, []int{6}},
		{attrs(num("a", 2)), []int{4, 9}, []int{4}, []int{1}, []int{6}},
		{attrs(num("a", 3)), []int{4, 9}, []int{4}, []int{1}, []int{6}},
		{attrs(num("a", 5)), []int{4, 9}, []int{1, 4}, []int{1}, []int{6}},
		{attrs(num("a", 6)), []int{4, 9}, []int{1}, []int{1}, []int{6}},
		{attrs(num("a", 7)), []int{9}, []int{1}, []int{1}, []int{6}},
		{attrs(num("a", 9)), []int{9}, []int{1}, []int{1}, []int{6}},
		// all of a predicate's constraints are asked
		{attrs(num("a", 4), num("b", 1)), []int{4, 6, 9}, []int{4}, []int{1}, []int{6}},
		{attrs(num("a", 4), num("b", 2)), []int{4, 9}, []int{4}, []int{1}, []int{6}},
		{attrs(num("a", 3), num("b", 1)), []int{4, 9}, []int{4}, []int{1}, []int{6}},
		{attrs(num("a", 9), num("b", 1)), []int{6, 9}, []int{1}, []int{1}, []int{6}},
		// texts, and prefixes
		{attrs(word("b", "x")), []int{0}, nil, []int{1}, []int{7}},
		{attrs(word("b", "xy")), nil, nil, []int{1}, []int{7}},
		{attrs(word("b", "y")), nil, nil, []int{1}, nil},
		{attrs(word("b", "")), nil, nil, []int{1}, nil},
		{attrs(num("a", 5), word("b", "x")), []int{0, 4, 9}, []int{1, 4}, []int{1}, []int{6, 7}},
		// who has it in no tree but one gets it by each
		{attrs(num("c", 0)), nil, nil, []int{1}, []int{8}},
		{attrs(num("a", 1), word("b", "xx"), num("c", 0)), []int{9}, nil, []int{1}, []int{6, 7, 8}},
		{attrs(num("a", 5), word("b", "x"), num("c", 0), num("d", 1), num("e", 1)), []int{0, 4, 9}, []int{1, 4}, []int{1}, []int{6, 7, 8}},
	}
}

// P13.1

func TestTo(t *testing.T) {
	for _, q := range cases() {
		for i, want := range [][]int{q.first, q.root, q.second} {
			tree := []api.ID{first, root, second}[i]
			if got := carry.To(full(), tree, q.l); !slices.Equal(got, want) {
				t.Error(tree, q.l, got)
			}
		}
	}
}

// In a tree that b doesn't know there is nothing; nor in one without entries.
func TestToNowhere(t *testing.T) {
	bare := full()
	bare.Entries = slices.DeleteFunc(bare.Entries, func(e api.Entry) bool { return e.Tree == root })
	for _, q := range cases() {
		for _, tree := range []api.ID{gone, fresh, id(0, 7), id(1, 4), id(1, 6), id(0, 1), id(6, 0), {}, id(math.MinInt, 5), id(math.MaxInt, math.MaxInt)} {
			if got := carry.To(full(), tree, q.l); len(got) > 0 {
				t.Error(tree, q.l, got)
			}
		}
		for _, b := range []api.Broker{bare, {}, adverts.New(3, 0, 1, 4)} {
			if got := carry.To(b, root, q.l); len(got) > 0 {
				t.Error(b, q.l, got)
			}
		}
	}
}

// Whether an entry was passed on, or is covered, doesn't matter: what it is
// about came from there.
func TestToOfCovered(t *testing.T) {
	b := adverts.New(0, 1, 2, 3)
	b, _ = flood.Advertise(b, 1, first, nil)
	for _, e := range []api.Entry{entry(first, id(5, 0), 2, true, span("a", 0, 9)), entry(first, id(5, 1), 3, false, span("a", 4, 4))} {
		var up bool
		if b, up = subs.Add(b, e); up != e.Up {
			t.Fatal(b)
		}
	}
	if got := carry.To(b, first, attrs(num("a", 4))); !slices.Equal(got, []int{2, 3}) {
		t.Error(got)
	}
	if got := carry.To(b, first, attrs(num("a", 5))); !slices.Equal(got, []int{2}) {
		t.Error(got)
	}
}

// Links rise, each once, in whichever order their subscriptions stand.
func TestToRises(t *testing.T) {
	near := []int{0, 2, 3, 5, 64, math.MaxInt}
	d := dice(3)
	for range 200 {
		b, from := adverts.New(7, append(near, 1)...), map[int]bool{}
		b, _ = flood.Advertise(b, 1, first, nil)
		for i := range d.below(12) {
			x := near[d.below(len(near))]
			from[x] = true
			b, _ = subs.Add(b, entry(first, id(9, i), x, false, span("a", i, 20)))
		}
		var want []int
		for _, x := range near {
			if from[x] {
				want = append(want, x)
			}
		}
		if got := carry.To(b, first, attrs(num("a", 20))); !slices.Equal(got, want) {
			t.Fatal(b, got)
		}
	}
}

func TestClients(t *testing.T) {
	for _, q := range cases() {
		if got := carry.Clients(full(), q.l); !slices.Equal(got, q.clients) {
			t.Error(q.l, got)
		}
		for _, b := range []api.Broker{{}, adverts.New(3, 1), {Near: []int{1, 4}, Adverts: full().Adverts, Seen: full().Seen, Entries: full().Entries}} {
			if got := carry.Clients(b, q.l); len(got) > 0 {
				t.Error(b, q.l, got)
			}
		}
	}
}

// Own subscriptions are asked themselves: those that came ahead of all trees,
// those that meet no tree, those that one covers that was passed on.
func TestClientsOfNoTree(t *testing.T) {
	b := adverts.New(3, 0, 1)
	b, _ = route.Subscribe(b, id(4, 0), list(span("a", 1, 5)))
	if got := carry.Clients(b, attrs(num("a", 3))); !slices.Equal(got, []int{4}) {
		t.Error(got)
	}
	b, _ = flood.Advertise(b, 1, first, list(span("a", 1, 9), span("b", 1, 1)))
	b, _ = route.Subscribe(b, id(2, 0), list(span("a", 3, 3)))
	b, _ = route.Subscribe(b, id(1, 0), list(span("a", 3, 3), text("b", "x")))
	if got := carry.Clients(b, attrs(num("a", 3))); !slices.Equal(got, []int{2, 4}) {
		t.Error(got)
	}
	if got := carry.Clients(b, attrs(num("a", 3), word("b", "x"))); !slices.Equal(got, []int{1, 2, 4}) {
		t.Error(got)
	}
	b, _ = route.Unsubscribe(b, id(2, 0))
	if got := carry.Clients(b, attrs(num("a", 3))); !slices.Equal(got, []int{4}) {
		t.Error(got)
	}
	b, _ = flood.Unadvertise(b, 1, first)
	if got := carry.Clients(b, attrs(num("a", 3), word("b", "x"))); !slices.Equal(got, []int{1, 4}) {
		t.Error(got)
	}
}

// Clients rise, each once, whichever of their subscriptions match.
func TestClientsRise(t *testing.T) {
	for set := range 1 << 6 {
		b, want := api.Broker{}, []int(nil)
		for i, x := range []api.ID{id(0, 3), id(2, 0), id(2, 1), id(2, 5), id(31, 0), id(31, 2)} {
			p := list(span("a", 7, 8))
			if set&(1<<i) > 0 {
				p, want = list(span("a", 4, 9-i)), append(want, x.Client)
			}
			b.Owns = append(b.Owns, own(x, p...))
		}
		if got := carry.Clients(b, attrs(num("a", 4))); !slices.Equal(got, slices.Compact(want)) {
			t.Error(set, got)
		}
	}
}

// P13.2

func TestPub(t *testing.T) {
	x := id(5, 8)
	for _, q := range cases() {
		for i, to := range [][]int{q.first, q.root, q.second} {
			a := []api.ID{first, root, second}[i]
			m := pub(a, x, q.l...)
			var wantOut []api.Out
			for _, n := range to {
				wantOut = append(wantOut, api.Out{To: n, M: m})
			}
			var want []api.Delivery
			for _, c := range q.clients {
				want = append(want, api.Delivery{Client: c, Pub: x, Attrs: q.l})
			}
			out, got := carry.Pub(full(), []int{1, api.Local, 4}[i], m)
			if told(out) != told(wantOut) || told(got) != told(want) {
				t.Error(m, out, got)
			}
		}
	}
}

// From where its tree doesn't come from nothing is taken: not from a child,
// not from another neighbour, not from here, nor, at a root, from elsewhere.
func TestPubPassesOver(t *testing.T) {
	for _, q := range cases() {
		for _, a := range full().Adverts {
			for _, from := range append(odd(), full().Near...) {
				out, got := carry.Pub(full(), from, pub(a.ID, id(5, 8), q.l...))
				if from != a.Parent && len(out)+len(got) > 0 {
					t.Error(a, from, q.l, out, got)
				}
			}
		}
	}
}

// Of trees that it doesn't know: they are gone, or weren't there. Its own
// clients get nothing of that, either.
func TestPubOfNoTree(t *testing.T) {
	l := attrs(num("a", 5), word("b", "x"))
	for _, tree := range []api.ID{gone, fresh, id(0, 7), id(0, 1), id(6, 0), {}, id(math.MinInt, 2), id(math.MaxInt, math.MaxInt)} {
		for _, from := range append(odd(), full().Near...) {
			for _, b := range []api.Broker{full(), {}, adverts.New(3, 0, 1, 4, 6), {Owns: []api.Own{own(id(1, 1))}, Near: []int{0, 1}, Seen: []api.ID{{}, gone}}} {
				if out, got := carry.Pub(b, from, pub(tree, id(5, 8), l...)); len(out)+len(got) > 0 {
					t.Error(tree, from, out, got)
				}
			}
		}
	}
	b, _ := flood.Unadvertise(full(), 1, first)
	if out, got := carry.Pub(b, 1, pub(first, id(5, 8), l...)); len(out)+len(got) > 0 {
		t.Error(out, got)
	}
}

// The message goes on as it came, whatever is in it.
func TestPubGoesAsItIs(t *testing.T) {
	for _, n := range odd() {
		m := api.Message{Kind: n, Tree: second, ID: id(n, -n), Pred: list(span("q", n, n)), Attrs: attrs(num("c", 0), api.Attr{Name: "\xff", Value: api.Value{N: n, Text: "t"}})}
		out, got := carry.Pub(full(), 4, m)
		if told(out) != told([]api.Out{{To: 1, M: m}}) || told(got) != told([]api.Delivery{{Client: 8, Pub: m.ID, Attrs: m.Attrs}}) {
			t.Error(m, out, got)
		}
	}
}

// The chapter's run, and the whole's fifth example.
func TestRuns(t *testing.T) {
	b, _ := flood.Advertise(adverts.New(0, 1, 2, 3), 1, first, list(span("a", 1, 9)))
	b, _ = route.OnSub(b, 2, api.Message{Kind: api.MSub, Tree: first, ID: id(4, 0), Pred: list(span("a", 1, 5))})
	b, _ = route.OnSub(b, 3, api.Message{Kind: api.MSub, Tree: first, ID: id(5, 0), Pred: list(span("a", 6, 9))})
	m := pub(first, id(9, 0), num("a", 5))
	if out, got := carry.Pub(b, 1, m); told(out) != told([]api.Out{{To: 2, M: m}}) || len(got) > 0 {
		t.Error(out, got)
	}
	b, _ = route.Subscribe(b, id(6, 0), list(span("a", 5, 7)))
	b, _ = route.Subscribe(b, id(6, 1), list(span("b", 1, 2)))
	m = pub(first, id(9, 0), num("a", 7), num("b", 1))
	want := []api.Delivery{{Client: 6, Pub: id(9, 0), Attrs: m.Attrs}}
	if out, got := carry.Pub(b, 1, m); told(out) != told([]api.Out{{To: 3, M: m}}) || told(got) != told(want) {
		t.Error(out, got)
	}
}

// pool is predicates that meet, cover and miss each other in all ways.
func pool() [][]api.Constraint {
	return [][]api.Constraint{
		nil, list(span("a", 0, 1)), list(span("a", 1, 2)), list(span("a", 0, 3)), list(text("a", "x")), list(begin("a", "")), list(begin("a", "x")),
		list(span("b", 1, 1)), list(span("a", 1, 1), span("b", 1, 1)), list(span("a", 3, 4), span("b", 0, 2)), list(span("a", 0, 9)),
	}
}

// samples is publications enough to tell what is in pool apart.
func samples() [][]api.Attr {
	l := [][]api.Attr{nil}
	for n := -1; n <= 10; n++ {
		l = append(l, attrs(num("a", n)), attrs(num("b", n)))
		for m := -1; m <= 3; m++ {
			l = append(l, attrs(num("a", n), num("b", m)))
		}
	}
	for _, s := range []string{"", "x", "xy", "y"} {
		l = append(l, attrs(word("a", s)), attrs(word("a", s), num("b", 1)))
	}
	return l
}

// suits says, by the words of the document alone, whether p matches l.
func suits(p []api.Constraint, l []api.Attr) bool {
	return !slices.ContainsFunc(p, func(c api.Constraint) bool {
		return !slices.ContainsFunc(l, func(a api.Attr) bool {
			v := a.Value
			switch {
			case a.Name != c.Name || v.IsText == (c.Kind == api.CRange):
				return false
			case c.Kind == api.CRange:
				return c.Lo <= v.N && v.N <= c.Hi
			case c.Kind == api.CPrefix:
				return strings.HasPrefix(v.Text, c.Text)
			}
			return v.Text == c.Text
		})
	})
}

func TestSuits(t *testing.T) {
	for _, p := range pool() {
		for _, l := range samples() {
			if suits(p, l) != rel.Match(p, l) {
				t.Error(p, l)
			}
		}
	}
}

// dice is numbers that look like chance, and are the same each time.
type dice uint64

// below is one of 0 to n - 1.
func (d *dice) below(n int) int {
	*d = *d*6364136223846793005 + 1442695040888963407
	return int(*d >> 33 % dice(n))
}

// some is a broker that heard all sorts of things.
func some(d *dice) api.Broker {
	b := adverts.New(0, 2, 5, 7, 8)
	trees := []api.ID{id(1, 0), id(1, 1), id(2, 0), id(2, 1)}
	for i, x := range trees {
		b, _ = flood.Advertise(b, []int{2, api.Local, 5, 8}[i], x, pool()[d.below(len(pool()))])
	}
	for range d.below(40) {
		x, from, p := id(d.below(4), d.below(6)), []int{2, 5, 7, 8}[d.below(4)], pool()[d.below(len(pool()))]
		if d.below(3) == 0 {
			b, _ = route.Subscribe(b, x, p)
			continue
		}
		b, _ = route.OnSub(b, from, api.Message{Kind: api.MSub, Tree: trees[d.below(len(trees))], ID: id(4+x.Client, x.Seq), Pred: p})
	}
	if d.below(3) == 0 {
		b, _ = flood.Unadvertise(b, 5, id(2, 0))
	}
	return b
}

// wants is where l goes in that tree, and who gets it: of each neighbour and
// each client it is asked whether there is anything for it.
func wants(b api.Broker, tree api.ID, l []api.Attr) (to, who []int) {
	for _, n := range b.Near {
		if slices.ContainsFunc(b.Entries, func(e api.Entry) bool { return e.Tree == tree && e.From == n && suits(e.Pred, l) }) {
			to = append(to, n)
		}
	}
	for c := range api.MaxClients {
		if slices.ContainsFunc(b.Owns, func(o api.Own) bool { return o.ID.Client == c && suits(o.Pred, l) }) {
			who = append(who, c)
		}
	}
	return to, who
}

// Whatever a broker holds, and whatever comes: it goes where the chapter says.
func TestByPlainReckoning(t *testing.T) {
	for seed := range 80 {
		d := dice(seed)
		b := some(&d)
		if !adverts.Right(b) || !subs.Tight(b) {
			t.Fatal(b)
		}
		for _, l := range samples() {
			for _, tree := range []api.ID{id(1, 0), id(1, 1), id(2, 0), id(2, 1), id(3, 3)} {
				to, who := wants(b, tree, l)
				if !slices.Equal(carry.To(b, tree, l), to) || !slices.Equal(carry.Clients(b, l), who) {
					t.Fatal(seed, tree, l, b)
				}
				for _, from := range []int{api.Local, 2, 5, 7, 8} {
					askPub(t, b, from, pub(tree, id(9, seed), l...), to, who)
				}
			}
		}
	}
}

// askPub asks Pub for what goes to there, and what those get.
func askPub(t *testing.T, b api.Broker, from int, m api.Message, to, who []int) {
	if !slices.ContainsFunc(b.Adverts, func(a api.Advert) bool { return a.ID == m.Tree && a.Parent == from }) {
		to, who = nil, nil
	}
	out, got := carry.Pub(b, from, m)
	if !slices.Equal(links(out), to) || !slices.Equal(clients(got), who) {
		t.Fatal(b, from, m, out, got)
	}
	for _, o := range out {
		if told(o.M) != told(m) || !wire.Right(o.M) || o.To == from {
			t.Fatal(from, m, o)
		}
	}
	for _, d := range got {
		if d.Pub != m.ID || told(d.Attrs) != told(m.Attrs) {
			t.Fatal(m, d)
		}
	}
}

// way is a link in one direction, and what waits there.
type way struct {
	from, to int
	waits    []api.Message
}

// cross is one crossing of a publication.
type cross struct {
	from, to int
	pub      api.ID
}

// web is brokers, what waits between them, what crossed and what was delivered.
type web struct {
	brokers []api.Broker
	ways    []way
	pubs    int
	crossed map[cross]int
	got     map[api.ID][]int
}

func newWeb(g api.Graph) *web {
	w := &web{crossed: map[cross]int{}, got: map[api.ID][]int{}}
	for n := range g.Brokers {
		w.brokers = append(w.brokers, adverts.New(n, graph.Near(g, n)...))
	}
	for _, l := range graph.Ways(g) {
		w.ways = append(w.ways, way{from: l[0], to: l[1]})
	}
	return w
}

// put takes what a broker answered.
func (w *web) put(t *testing.T, n int, b api.Broker, out []api.Out, got []api.Delivery) {
	w.brokers[n] = b
	for _, o := range out {
		at := slices.IndexFunc(w.ways, func(x way) bool { return x.from == n && x.to == o.To })
		w.ways[at].waits = append(w.ways[at].waits, o.M)
		if o.M.Kind == api.MPub {
			w.crossed[cross{n, o.To, o.M.ID}]++
		}
	}
	for _, d := range got {
		// Nothing false: who gets it has a subscription that matches, now and here (T3).
		if !slices.ContainsFunc(b.Owns, func(o api.Own) bool { return o.ID.Client == d.Client && suits(o.Pred, d.Attrs) }) {
			t.Error("delivered to one who doesn't want it:", n, d)
		}
		w.got[d.Pub] = append(w.got[d.Pub], d.Client)
	}
}

// pick does the first message of one of the ways where something waits; false,
// if nothing waits.
func (w *web) pick(t *testing.T, d *dice) bool {
	var busy []int
	for i, x := range w.ways {
		if len(x.waits) > 0 {
			busy = append(busy, i)
		}
	}
	if len(busy) == 0 {
		return false
	}
	x := &w.ways[busy[d.below(len(busy))]]
	m := x.waits[0]
	x.waits = x.waits[1:]
	b, out, got := w.brokers[x.to], []api.Out(nil), []api.Delivery(nil)
	switch m.Kind {
	case api.MAdv:
		b, out = flood.Advertise(b, x.from, m.Tree, m.Pred)
	case api.MUnadv:
		b, out = flood.Unadvertise(b, x.from, m.Tree)
	case api.MSub:
		b, out = route.OnSub(b, x.from, m)
	case api.MUnsub:
		b, out = route.OnUnsub(b, x.from, m)
	case api.MPub:
		out, got = carry.Pub(b, x.from, m)
	}
	w.put(t, x.to, b, out, got)
	return true
}

// settle picks till nothing waits.
func (w *web) settle(t *testing.T, d *dice) {
	const enough = 20000 // more than what waits in webs can take
	for range enough {
		if !w.pick(t, d) {
			return
		}
	}
	t.Fatal("it doesn't end")
}

// webs is graphs of all shapes.
func webs() []api.Graph {
	return []api.Graph{
		{Brokers: 1},
		{Brokers: 2, Links: [][2]int{{0, 1}}},
		{Brokers: 3, Links: [][2]int{{0, 1}, {1, 2}, {2, 0}}},
		{Brokers: 4, Links: [][2]int{{0, 1}, {0, 2}, {0, 3}}},
		{Brokers: 5, Links: [][2]int{{0, 1}, {1, 2}, {2, 3}, {3, 4}}},
		{Brokers: 5, Links: [][2]int{{0, 1}, {1, 2}, {2, 3}, {3, 4}, {4, 0}, {1, 3}}},
		{Brokers: 6, Links: [][2]int{{0, 1}, {0, 2}, {0, 3}, {0, 4}, {0, 5}, {1, 2}, {1, 3}, {1, 4}, {1, 5}, {2, 3}, {2, 4}, {2, 5}, {3, 4}, {3, 5}, {4, 5}}},
	}
}

// act does something that a client may do, but publish: of three clients a
// broker, those of n from 3 n on.
func (w *web) act(t *testing.T, d *dice) {
	n := d.below(len(w.brokers))
	b, out, p, x := w.brokers[n], []api.Out(nil), pool()[d.below(len(pool()))], id(3*n+d.below(3), d.below(4))
	switch d.below(8) {
	case 0, 1:
		b, out = flood.Advertise(b, api.Local, x, p)
	case 2:
		b, out = flood.Unadvertise(b, api.Local, x)
	case 3, 4, 5, 6:
		b, out = route.Subscribe(b, x, p)
	case 7:
		b, out = route.Unsubscribe(b, x)
	}
	w.put(t, n, b, out, nil)
}

// publish publishes one of samples on each tree whose advertisement it
// matches, that many times over.
func (w *web) publish(t *testing.T, d *dice, often int) {
	all := samples()
	for n, b := range w.brokers {
		for _, a := range b.Adverts {
			for range often {
				l := all[d.below(len(all))]
				if a.Parent != api.Local || !suits(a.Pred, l) {
					continue
				}
				w.pubs++
				out, got := carry.Pub(b, api.Local, pub(a.ID, id(a.ID.Client, w.pubs), l...))
				w.put(t, n, b, out, got)
			}
		}
	}
}

// askOnce asks whether each publication crossed each link once at most, and
// one way alone, and came to each client once at most (T1).
func (w *web) askOnce(t *testing.T) {
	for c, often := range w.crossed {
		if back := w.crossed[cross{c.to, c.from, c.pub}]; often != 1 || back > 0 {
			t.Error("crossed too often:", c, often, back)
		}
	}
	for x, l := range w.got {
		slices.Sort(l)
		if len(slices.Compact(slices.Clone(l))) != len(l) {
			t.Error("delivered too often:", x, l)
		}
	}
}

// Whatever clients do while publications are on their way: none comes twice,
// and none comes to one who doesn't want it (T1, T3).
func TestOnceAtMost(t *testing.T) {
	for i, g := range webs() {
		for seed := range 12 {
			w, d := newWeb(g), dice(100*i+seed)
			for range 60 {
				w.act(t, &d)
				if d.below(3) == 0 {
					w.publish(t, &d, 4)
				}
				for range d.below(2 + 2*seed) {
					w.pick(t, &d)
				}
			}
			w.settle(t, &d)
			w.askOnce(t)
			if len(w.got) == 0 {
				t.Error(g, seed, "nothing was delivered")
			}
		}
	}
}

// What is published in a quiet web comes to just those who want it, by
// whichever tree, once it is quiet again (T2).
func TestJustThose(t *testing.T) {
	for i, g := range webs() {
		for seed := range 12 {
			w, d := newWeb(g), dice(5000*i+seed)
			for range 60 {
				w.act(t, &d)
				for range d.below(1 + seed) {
					w.pick(t, &d)
				}
			}
			w.settle(t, &d)
			var owns []api.Own
			for _, b := range w.brokers {
				owns = append(owns, b.Owns...)
			}
			for _, l := range samples() {
				w.askThose(t, &d, owns, l)
			}
			w.askOnce(t)
		}
	}
}

// askThose publishes l on each tree that allows it, and asks who got it.
func (w *web) askThose(t *testing.T, d *dice, owns []api.Own, l []api.Attr) {
	var want []int
	for _, o := range owns {
		if suits(o.Pred, l) {
			want = append(want, o.ID.Client)
		}
	}
	slices.Sort(want)
	want = slices.Compact(want)
	for n, b := range w.brokers {
		for _, a := range b.Adverts {
			if a.Parent != api.Local || !suits(a.Pred, l) {
				continue
			}
			w.pubs++
			x := id(a.ID.Client, w.pubs)
			out, got := carry.Pub(b, api.Local, pub(a.ID, x, l...))
			w.put(t, n, b, out, got)
			w.settle(t, d)
			if slices.Sort(w.got[x]); !slices.Equal(w.got[x], want) {
				t.Fatal(w.brokers, a, l, w.got[x], want)
			}
		}
	}
}

// The whole's eighth example: a client unsubscribes while a publication is on
// its way, and doesn't get it.
func TestUnsubscribedMeanwhile(t *testing.T) {
	w, d := newWeb(api.Graph{Brokers: 2, Links: [][2]int{{0, 1}}}), dice(1)
	b, out := flood.Advertise(w.brokers[0], api.Local, id(0, 0), list(span("a", 1, 9)))
	w.put(t, 0, b, out, nil)
	b, out = route.Subscribe(w.brokers[1], id(1, 0), list(span("a", 2, 3)))
	w.put(t, 1, b, out, nil)
	w.settle(t, &d)
	for i, stays := range []bool{true, false} {
		out, got := carry.Pub(w.brokers[0], api.Local, pub(id(0, 0), id(0, i), num("a", 2)))
		if len(out) != 1 || len(got) > 0 {
			t.Fatal(out, got)
		}
		w.put(t, 0, w.brokers[0], out, got)
		if !stays {
			b, out = route.Unsubscribe(w.brokers[1], id(1, 0))
			w.put(t, 1, b, out, nil)
		}
		w.settle(t, &d)
		if (len(w.got[id(0, i)]) == 1) != stays {
			t.Error(i, w.got)
		}
	}
	// What is published then doesn't go there any more.
	if out, got := carry.Pub(w.brokers[0], api.Local, pub(id(0, 0), id(0, 2), num("a", 2))); len(out)+len(got) > 0 {
		t.Error(out, got)
	}
}

// preds is where b's predicates stand, those in its spare room too.
func preds(b api.Broker) []*[]api.Constraint {
	var l []*[]api.Constraint
	for i := range b.Adverts[:cap(b.Adverts)] {
		l = append(l, &b.Adverts[:cap(b.Adverts)][i].Pred)
	}
	for i := range b.Entries[:cap(b.Entries)] {
		l = append(l, &b.Entries[:cap(b.Entries)][i].Pred)
	}
	for i := range b.Owns[:cap(b.Owns)] {
		l = append(l, &b.Owns[:cap(b.Owns)][i].Pred)
	}
	return l
}

// room is l with room behind it, and what stands there.
func room[T any](l []T, x ...T) []T {
	return append(slices.Clone(l), x...)[:len(l)]
}

// roomy is full, with room behind each list, and what stands there: it would
// match, if it were read.
func roomy() api.Broker {
	b := full()
	for _, p := range preds(b) {
		*p = room(*p, text("room", "a"), text("room", "b"))
	}
	b.Near = room(b.Near, 88, 88)
	b.Seen = room(b.Seen, fresh, id(88, 1))
	b.Adverts = room(b.Adverts, advert(fresh, 1, text("room", "c")), advert(id(88, 1), 1))
	b.Entries = room(b.Entries, entry(second, id(88, 0), 9, true), entry(fresh, id(0, 1), 6, true))
	b.Owns = room(b.Owns, own(id(8, 9)), own(id(88, 1)))
	return b
}

// roomyPub is a publication with room behind each of its lists.
func roomyPub(tree api.ID, l []api.Attr) api.Message {
	m := pub(tree, id(5, 8), room(l, num("a", 5), word("b", "x"))...)
	m.Pred = room(list(span("q", 1, 2)), text("room", "a"))
	return m
}

// whole is all that stands in b's memory, in its spare room too.
func whole(b api.Broker) string {
	b.Near, b.Seen = b.Near[:cap(b.Near)], b.Seen[:cap(b.Seen)]
	b.Adverts, b.Entries, b.Owns = b.Adverts[:cap(b.Adverts)], b.Entries[:cap(b.Entries)], b.Owns[:cap(b.Owns)]
	s := told(b)
	for _, p := range preds(b) {
		s += told((*p)[:cap(*p)])
	}
	return s
}

// wholePub is all that stands in m's memory, in its spare room too.
func wholePub(m api.Message) string {
	return told(m) + told(m.Pred[:cap(m.Pred)]) + told(m.Attrs[:cap(m.Attrs)])
}

// spoil writes over the whole of l, its spare room too.
func spoil[T any](l []T, x T) {
	l = l[:cap(l)]
	for i := range l {
		l[i] = x
	}
}

// spoilMessage writes over what m holds.
func spoilMessage(m api.Message) {
	spoil(m.Pred, text("spoilt", "spoilt"))
	spoil(m.Attrs, num("spoilt", 77))
}

// spoilBroker writes over all that b holds.
func spoilBroker(b api.Broker) {
	for _, p := range preds(b) {
		spoil(*p, text("spoilt", "spoilt"))
	}
	spoil(b.Near, 77)
	spoil(b.Seen, id(77, 77))
	spoil(b.Adverts, advert(id(77, 77), 77))
	spoil(b.Entries, entry(id(77, 77), id(77, 77), 77, true))
	spoil(b.Owns, own(id(77, 77)))
}

// R2, R5: what is handed in isn't changed, its spare room included, nor is that read.
func TestWhatIsHandedInStays(t *testing.T) {
	for _, q := range cases() {
		for i, a := range full().Adverts {
			b, m := roomy(), roomyPub(a.ID, q.l)
			was := wholePub(m)
			out, got := carry.Pub(b, a.Parent, m)
			to := carry.To(b, a.ID, m.Attrs)
			who := carry.Clients(b, m.Attrs)
			if whole(b) != whole(roomy()) || wholePub(m) != was {
				t.Error("changed:", b, m)
			}
			want := [][]int{q.first, q.root, q.second}[i]
			if !slices.Equal(links(out), want) || !slices.Equal(to, want) || !slices.Equal(clients(got), q.clients) || !slices.Equal(who, q.clients) {
				t.Error("spare room is read:", out, got, to, who)
			}
		}
	}
}

// R2: nothing of what was handed in is kept, and an answer is new memory: no
// two lists of it share any.
func TestAnswersAreNew(t *testing.T) {
	l := attrs(num("a", 5), word("b", "x"), num("c", 0))
	b, m := roomy(), roomyPub(first, l)
	was := wholePub(m)
	out, got := carry.Pub(b, 1, m)
	if len(out) != 3 || len(got) != 3 {
		t.Fatal(out, got)
	}
	for i := range out {
		rest := told(out[i+1:]) + told(got)
		if spoilMessage(out[i].M); told(out[i+1:])+told(got) != rest {
			t.Error(i, out, got)
		}
	}
	for i := range got {
		rest := told(got[i+1:])
		if spoil(got[i].Attrs, num("spoilt", 77)); told(got[i+1:]) != rest {
			t.Error(i, got)
		}
	}
	spoil(out, api.Out{To: 77})
	spoil(got, api.Delivery{Client: 77})
	spoil(carry.To(b, first, m.Attrs), 77)
	spoil(carry.Clients(b, m.Attrs), 77)
	if whole(b) != whole(roomy()) || wholePub(m) != was {
		t.Error("shared:", b, m)
	}
	out, got = carry.Pub(b, 1, m)
	to, who := carry.To(b, first, m.Attrs), carry.Clients(b, m.Attrs)
	want := told(out) + told(got) + told(to) + told(who)
	spoilBroker(b)
	if spoilMessage(m); told(out)+told(got)+told(to)+told(who) != want {
		t.Error("kept:", out, got, to, who)
	}
}

// R4: nil and empty lists mean the same; and the same is answered each time.
func TestNilAndEmpty(t *testing.T) {
	empty := api.Broker{Near: []int{2, 3}, Seen: []api.ID{first}, Adverts: []api.Advert{{ID: first, Pred: list(), Parent: 2}}, Entries: []api.Entry{{Tree: first, Sub: id(4, 0), Pred: list(), From: 3, Up: true}}, Owns: []api.Own{{ID: id(5, 0), Pred: list()}}}
	bare := api.Broker{Near: []int{2, 3}, Seen: []api.ID{first}, Adverts: []api.Advert{advert(first, 2)}, Entries: []api.Entry{entry(first, id(4, 0), 3, true)}, Owns: []api.Own{own(id(5, 0))}}
	m := pub(first, id(9, 0))
	m.Pred, m.Attrs = list(), attrs()
	for range 3 {
		for _, b := range []api.Broker{empty, bare} {
			for _, m := range []api.Message{m, pub(first, id(9, 0))} {
				out, got := carry.Pub(b, 2, m)
				if told(out) != told([]api.Out{{To: 3, M: m}}) || told(got) != told([]api.Delivery{{Client: 5, Pub: id(9, 0)}}) {
					t.Error(out, got)
				}
				if !slices.Equal(carry.To(b, first, m.Attrs), []int{3}) || !slices.Equal(carry.Clients(b, m.Attrs), []int{5}) {
					t.Error(b, m)
				}
			}
		}
	}
	none := api.Broker{Near: []int{}, Seen: []api.ID{}, Adverts: []api.Advert{}, Entries: []api.Entry{}, Owns: []api.Own{}}
	if out, got := carry.Pub(none, 2, m); len(out)+len(got)+len(carry.To(none, first, nil))+len(carry.Clients(none, nil)) > 0 {
		t.Error(out, got)
	}
}

// crooked is brokers that are not right.
func crooked() []api.Broker {
	var l []api.Broker
	for _, do := range []func(b *api.Broker){
		func(b *api.Broker) { slices.Reverse(b.Entries) },
		func(b *api.Broker) { slices.Reverse(b.Owns) },
		func(b *api.Broker) { slices.Reverse(b.Adverts) },
		func(b *api.Broker) { b.Owns = append(b.Owns, b.Owns...) },
		func(b *api.Broker) { b.Adverts = append(b.Adverts, b.Adverts...) },
		func(b *api.Broker) { b.Entries = append(b.Entries, b.Entries...) },
		func(b *api.Broker) { b.Near, b.Seen, b.Adverts = nil, nil, nil },
		func(b *api.Broker) { b.Near = []int{6, 6, math.MaxInt, -1, 0, math.MinInt} },
		func(b *api.Broker) {
			for i := range b.Adverts {
				b.Adverts[i].Parent = odd()[i]
			}
			for i := range b.Entries {
				b.Entries[i].From, b.Entries[i].Up = odd()[i%len(odd())], i%2 == 0
			}
			for i := range b.Owns {
				b.Owns[i].ID.Client = -odd()[i]
			}
		},
		func(b *api.Broker) {
			for _, p := range preds(*b) {
				*p = list(api.Constraint{}, span("", 3, 1), span("a", 2, 1), span("a", 1, 2), begin("a", "abcdefghijklmnop"), api.Constraint{Name: "a", Kind: 99})
			}
		},
	} {
		b := full()
		do(&b)
		l = append(l, b)
	}
	return l
}

// R1: whatever is given, every call ends, and none panics.
func TestOfWhateverEnds(t *testing.T) {
	wrong := [][]api.Attr{nil, {{}}, {num("a", 2), num("a", 5)}, {num("b", 2), num("a", 5)}, {{Name: "\xff", Value: api.Value{IsText: true, N: 3, Text: "\x00"}}}, slices.Repeat(attrs(num("a", 3)), 50)}
	for _, b := range append(crooked(), full(), api.Broker{}) {
		was := whole(b)
		for _, l := range wrong {
			carry.Clients(b, l)
			for _, from := range append(odd(), full().Near...) {
				for _, tree := range []api.ID{{}, first, root, second, gone, fresh, id(from, from), id(math.MinInt, math.MaxInt)} {
					carry.To(b, tree, l)
					carry.Pub(b, from, api.Message{Kind: from, Tree: tree, ID: id(from, -from), Pred: list(api.Constraint{}), Attrs: l})
				}
			}
		}
		if whole(b) != was {
			t.Error("changed:", b)
		}
	}
}

func TestLongRows(t *testing.T) {
	const long = 1 << 12
	b := api.Broker{Adverts: []api.Advert{advert(first, api.Local)}, Seen: []api.ID{first}}
	for i := range long {
		b.Near = append(b.Near, i)
		b.Entries = append(b.Entries, entry(first, id(1, i), long-1-i/2, false, span("a", 0, i)))
		b.Owns = append(b.Owns, own(id(i/4, i), span("a", 0, i)))
	}
	if !adverts.Right(b) {
		t.Fatal("it isn't right")
	}
	out, got := carry.Pub(b, api.Local, pub(first, id(2, 0), num("a", 101)))
	if len(out) != (long-100)/2 || out[0].To != long/2 || out[len(out)-1].To != long-1-50 {
		t.Error(len(out))
	}
	if len(got) != long/4-25 || got[0].Client != 25 || got[len(got)-1].Client != long/4-1 {
		t.Error(len(got))
	}
}
