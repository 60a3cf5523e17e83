package broker_test

import (
	"errors"
	"fmt"
	"math"
	"slices"
	"strconv"
	"strings"
	"testing"

	"broadside/adverts"
	"broadside/api"
	"broadside/broker"
	"broadside/carry"
	"broadside/fault"
	"broadside/flood"
	"broadside/graph"
	"broadside/pred"
	"broadside/rel"
	"broadside/route"
	"broadside/subs"
	"broadside/tuple"
	"broadside/value"
	"broadside/wire"
)

func id(client, seq int) api.ID { return api.ID{Client: client, Seq: seq} }

func list(l ...api.Constraint) []api.Constraint { return l }

func span(lo, hi int) api.Constraint {
	return api.Constraint{Name: "a", Kind: api.CRange, Lo: lo, Hi: hi}
}

func text(name, s string) api.Constraint {
	return api.Constraint{Name: name, Kind: api.CText, Text: s}
}

func begin(name, s string) api.Constraint {
	return api.Constraint{Name: name, Kind: api.CPrefix, Text: s}
}

func num(n int) api.Attr { return api.Attr{Name: "a", Value: value.Number(n)} }

func word(name, s string) api.Attr { return api.Attr{Name: name, Value: value.Text(s)} }

// A message of each kind.

func adv(tree api.ID, p ...api.Constraint) api.Message {
	return api.Message{Kind: api.MAdv, Tree: tree, Pred: p}
}

func unadv(tree api.ID) api.Message { return api.Message{Kind: api.MUnadv, Tree: tree} }

func sub(tree, x api.ID, p ...api.Constraint) api.Message {
	return api.Message{Kind: api.MSub, Tree: tree, ID: x, Pred: p}
}

func unsub(tree, x api.ID) api.Message { return api.Message{Kind: api.MUnsub, Tree: tree, ID: x} }

func pub(tree, x api.ID, l ...api.Attr) api.Message {
	return api.Message{Kind: api.MPub, Tree: tree, ID: x, Attrs: l}
}

// told is all that is in x; nil and empty lists are told the same.
func told(x any) string { return fmt.Sprintf("%+v", x) }

// answer is all that is in what Step answered.
func answer(b api.Broker, out []api.Out, got []api.Delivery) string {
	return told(b) + told(out) + told(got)
}

func point(x api.ID) string { return strconv.Itoa(x.Client) + "." + strconv.Itoa(x.Seq) }

// sent is what goes out, in words: to whom, what, of which tree, of which ID,
// about what.
func sent(out []api.Out) string {
	var l []string
	for _, o := range out {
		s := strconv.Itoa(o.To) + ":" + []string{"?", "adv", "unadv", "sub", "unsub", "pub"}[o.M.Kind] + " " + point(o.M.Tree)
		if o.M.ID != (api.ID{}) {
			s += " " + point(o.M.ID)
		}
		l = append(l, strings.TrimSpace(s+" "+pred.Say(o.M.Pred)+tuple.Say(o.M.Attrs)))
	}
	return strings.Join(l, "; ")
}

// delivered is who gets something, in words, and what that is.
func delivered(got []api.Delivery) string {
	var l []string
	for _, d := range got {
		l = append(l, strconv.Itoa(d.Client)+"="+point(d.Pub)+" "+tuple.Say(d.Attrs))
	}
	return strings.Join(l, "; ")
}

// rows is a broker's rows, in words: where each came from, ^ of what is Up.
func rows(b api.Broker) []string {
	l := []string{"me " + strconv.Itoa(b.Me)}
	for _, n := range b.Near {
		l = append(l, "near "+strconv.Itoa(n))
	}
	for _, a := range b.Adverts {
		l = append(l, "adv "+point(a.ID)+"<"+strconv.Itoa(a.Parent)+" "+pred.Say(a.Pred))
	}
	for _, x := range b.Seen {
		l = append(l, "seen "+point(x))
	}
	for _, e := range b.Entries {
		up := ""
		if e.Up {
			up = "^"
		}
		l = append(l, point(e.Tree)+"/"+point(e.Sub)+"<"+strconv.Itoa(e.From)+up+" "+pred.Say(e.Pred))
	}
	for _, o := range b.Owns {
		l = append(l, "own "+point(o.ID)+" "+pred.Say(o.Pred))
	}
	return l
}

// change is which rows went from a to b, and which came.
func change(a, b api.Broker) string {
	var l []string
	was, is := rows(a), rows(b)
	for _, s := range was {
		if !slices.Contains(is, s) {
			l = append(l, "-"+s)
		}
	}
	for _, s := range is {
		if !slices.Contains(was, s) {
			l = append(l, "+"+s)
		}
	}
	return strings.Join(l, "; ")
}

// The trees of full: one of its own, one from 1, one from 3. One more is gone,
// and one is not known yet.
var root, first, side, gone, fresh = id(0, 1), id(4, 0), id(4, 3), id(4, 1), id(5, 0)

// full is a right and tight broker with some of everything.
func full() api.Broker {
	return api.Broker{
		Near: []int{1, 2, 3},
		Adverts: []api.Advert{
			{ID: root, Pred: list(span(1, 9)), Parent: api.Local},
			{ID: first, Pred: list(span(1, 9)), Parent: 1},
			{ID: side, Parent: 3},
		},
		Seen: []api.ID{root, first, gone, side},
		Entries: []api.Entry{
			{Tree: root, Sub: id(2, 1), Pred: list(span(2, 5)), From: api.Local},
			{Tree: root, Sub: id(6, 0), Pred: list(span(1, 5)), From: 2},
			{Tree: first, Sub: id(2, 1), Pred: list(span(2, 5)), From: api.Local},
			{Tree: first, Sub: id(6, 0), Pred: list(span(1, 5)), From: 2, Up: true},
			{Tree: first, Sub: id(7, 0), Pred: list(span(4, 5)), From: 3},
			{Tree: side, Sub: id(2, 1), Pred: list(span(2, 5)), From: api.Local, Up: true},
		},
		Owns: []api.Own{{ID: id(2, 1), Pred: list(span(2, 5))}},
	}
}

// odd is numbers of all sizes.
func odd() []int {
	return []int{math.MinInt, math.MinInt + 1, -2, -1, 0, 1, 2, 31, 32, 255, 256, 257, math.MaxInt - 1, math.MaxInt}
}

func TestFullIsRight(t *testing.T) {
	if !adverts.Right(full()) || !subs.Tight(full()) {
		t.Fatal(full())
	}
}

// cases is messages to full, and what comes of them.
func cases() []struct {
	from                 int
	m                    api.Message
	out, got, difference string
} {
	x, y := id(8, 0), id(9, 4)
	return []struct {
		from                 int
		m                    api.Message
		out, got, difference string
	}{
		// an advertisement goes round, and what meets it comes back
		{2, adv(fresh, span(3, 8)), "1:adv 5.0 a:3..8; 3:adv 5.0 a:3..8; 2:sub 5.0 2.1 a:2..5", "", "+adv 5.0<2 a:3..8; +seen 5.0; +5.0/2.1<-1^ a:2..5"},
		{1, adv(fresh, span(6, 8)), "2:adv 5.0 a:6..8; 3:adv 5.0 a:6..8", "", "+adv 5.0<1 a:6..8; +seen 5.0"},
		{3, adv(fresh), "1:adv 5.0; 2:adv 5.0; 3:sub 5.0 2.1 a:2..5", "", "+adv 5.0<3 ; +seen 5.0; +5.0/2.1<-1^ a:2..5"},
		// echoes, and those of what is gone
		{1, adv(first, span(1, 9)), "", "", ""},
		{2, adv(first, span(1, 9)), "", "", ""},
		{2, adv(first), "", "", ""},
		{1, adv(root, span(1, 9)), "", "", ""},
		{3, adv(gone, span(1, 9)), "", "", ""},
		// its end, from where it came from alone
		{1, unadv(first), "2:unadv 4.0; 3:unadv 4.0", "", "-adv 4.0<1 a:1..9; -4.0/2.1<-1 a:2..5; -4.0/6.0<2^ a:1..5; -4.0/7.0<3 a:4..5"},
		{3, unadv(side), "1:unadv 4.3; 2:unadv 4.3", "", "-adv 4.3<3 ; -4.3/2.1<-1^ a:2..5"},
		{2, unadv(first), "", "", ""},
		{1, unadv(side), "", "", ""},
		{1, unadv(root), "", "", ""},
		{1, unadv(gone), "", "", ""},
		{1, unadv(fresh), "", "", ""},
		// a subscription goes up, if nothing that did covers it
		{3, sub(first, x, span(1, 9)), "1:sub 4.0 8.0 a:1..9", "", "+4.0/8.0<3^ a:1..9"},
		{2, sub(first, x), "1:sub 4.0 8.0", "", "+4.0/8.0<2^ "},
		{3, sub(first, x, span(2, 3)), "", "", "+4.0/8.0<3 a:2..3"},
		{1, sub(root, x, span(1, 9)), "", "", "+0.1/8.0<1 a:1..9"},
		{1, sub(side, x, span(2, 6)), "3:sub 4.3 8.0 a:2..6", "", "+4.3/8.0<1^ a:2..6"},
		// one that is there, one from the parent, one of a tree that isn't there
		{3, sub(first, id(6, 0), span(1, 9)), "", "", ""},
		{2, sub(first, id(2, 1), span(1, 9)), "", "", ""},
		{1, sub(first, x, span(1, 9)), "", "", ""},
		{3, sub(side, x, span(1, 9)), "", "", ""},
		{2, sub(gone, x, span(1, 9)), "", "", ""},
		{2, sub(fresh, x, span(1, 9)), "", "", ""},
		// what it covered goes ahead of the word that it is gone
		{2, unsub(first, id(6, 0)), "1:sub 4.0 2.1 a:2..5; 1:unsub 4.0 6.0", "", "-4.0/2.1<-1 a:2..5; -4.0/6.0<2^ a:1..5; +4.0/2.1<-1^ a:2..5"},
		{3, unsub(first, id(7, 0)), "", "", "-4.0/7.0<3 a:4..5"},
		{2, unsub(root, id(6, 0)), "", "", "-0.1/6.0<2 a:1..5"},
		// from elsewhere, or of what isn't there
		{3, unsub(first, id(6, 0)), "", "", ""},
		{1, unsub(first, id(6, 0)), "", "", ""},
		{2, unsub(first, id(2, 1)), "", "", ""},
		{2, unsub(side, id(6, 0)), "", "", ""},
		{2, unsub(first, x), "", "", ""},
		{2, unsub(gone, id(6, 0)), "", "", ""},
		// a publication goes down, and is delivered
		{1, pub(first, y, num(4)), "2:pub 4.0 9.4 a=4; 3:pub 4.0 9.4 a=4", "2=9.4 a=4", ""},
		{1, pub(first, y, num(2)), "2:pub 4.0 9.4 a=2", "2=9.4 a=2", ""},
		{1, pub(first, y, num(1), word("b", "x")), `2:pub 4.0 9.4 a=1,b="x"`, "", ""},
		{3, pub(side, y, num(2), word("z", "")), "", `2=9.4 a=2,z=""`, ""},
		// to nobody, or not down its tree
		{1, pub(first, y, num(6)), "", "", ""},
		{1, pub(first, y), "", "", ""},
		{2, pub(first, y, num(4)), "", "", ""},
		{1, pub(side, y, num(4)), "", "", ""},
		{1, pub(root, y, num(4)), "", "", ""},
		{1, pub(gone, y, num(4)), "", "", ""},
		{1, pub(fresh, y, num(4)), "", "", ""},
	}
}

// P14.1

func TestStep(t *testing.T) {
	for i, q := range cases() {
		b, out, got := broker.Step(full(), q.from, q.m)
		if sent(out) != q.out || delivered(got) != q.got || change(full(), b) != q.difference {
			t.Error(i, sent(out), "|", delivered(got), "|", change(full(), b))
		}
		if !adverts.Right(b) || !subs.Tight(b) {
			t.Error(i, b)
		}
	}
}

// Of another kind than the five nothing comes, whatever else is in a message.
func TestStepOfOtherKinds(t *testing.T) {
	for _, q := range cases() {
		for _, n := range append(odd(), 6, 7, 8, 9) {
			m := q.m
			m.Kind = n
			b, out, got := broker.Step(full(), q.from, m)
			if api.MAdv <= n && n <= api.MPub {
				continue
			}
			if !adverts.Same(b, full()) || out != nil || got != nil || !broker.Quiet(full(), q.from, m) {
				t.Error(m, b, out, got)
			}
		}
	}
	if b, out, got := broker.Step(full(), 1, api.Message{}); !adverts.Same(b, full()) || out != nil || got != nil {
		t.Error(b, out, got)
	}
}

// What its kind doesn't ask of a message isn't read, nor passed on.
func TestStepOfMore(t *testing.T) {
	for i, q := range cases() {
		m := q.m
		switch m.Kind {
		case api.MUnadv:
			m.Pred = list(span(7, 77))
			fallthrough
		case api.MAdv:
			m.ID = id(77, 77)
		case api.MUnsub:
			m.Pred = list(span(7, 77))
		case api.MPub:
			continue
		}
		m.Attrs = []api.Attr{num(77)}
		b, out, got := broker.Step(full(), q.from, m)
		if sent(out) != q.out || delivered(got) != q.got || change(full(), b) != q.difference {
			t.Error(i, sent(out), "|", delivered(got), "|", change(full(), b))
		}
	}
}

// A publication goes on as it came.
func TestPubGoesAsItCame(t *testing.T) {
	m := pub(first, id(math.MinInt, math.MaxInt), num(4), word("\xff", "abcdefghijklmnop"))
	m.Pred = list(span(77, 7))
	_, out, got := broker.Step(full(), 1, m)
	if told(out) != told([]api.Out{{To: 2, M: m}, {To: 3, M: m}}) || told(got) != told([]api.Delivery{{Client: 2, Pub: m.ID, Attrs: m.Attrs}}) {
		t.Error(out, got)
	}
}

// parts is what the chapter says that Step does, call by call.
func parts(b api.Broker, from int, m api.Message) (api.Broker, []api.Out, []api.Delivery) {
	var out []api.Out
	var got []api.Delivery
	switch m.Kind {
	case 1:
		b, out = flood.Advertise(b, from, m.Tree, m.Pred)
	case 2:
		b, out = flood.Unadvertise(b, from, m.Tree)
	case 3:
		b, out = route.OnSub(b, from, m)
	case 4:
		b, out = route.OnUnsub(b, from, m)
	case 5:
		out, got = carry.Pub(b, from, m)
	}
	return b, out, got
}

// dice is numbers that look like chance, and are the same each time.
type dice uint64

// below is one of 0 to n - 1.
func (d *dice) below(n int) int {
	*d = *d*6364136223846793005 + 1442695040888963407
	return int(*d >> 33 % dice(n))
}

// pool is predicates that meet, cover and miss each other in all ways.
func pool() [][]api.Constraint {
	b := text("b", "x")
	return [][]api.Constraint{
		nil, list(span(0, 1)), list(span(1, 2)), list(span(0, 3)), list(text("a", "x")), list(begin("a", "")), list(begin("a", "x")),
		list(b), list(span(1, 1), b), list(span(3, 4), begin("b", "")), list(span(0, 9)),
	}
}

// samples is publications enough to tell what is in pool apart.
func samples() [][]api.Attr {
	l := [][]api.Attr{nil, {word("b", "x")}, {word("b", "y")}}
	for n := -1; n <= 10; n++ {
		l = append(l, []api.Attr{num(n)}, []api.Attr{num(n), word("b", "x")}, []api.Attr{num(n), word("b", "y")})
	}
	for _, s := range []string{"", "x", "xy", "y"} {
		l = append(l, []api.Attr{word("a", s)}, []api.Attr{word("a", s), word("b", "x")})
	}
	return l
}

// message is one of any kind, or of one that there isn't.
func (d *dice) message() api.Message {
	tree, x, p := id(d.below(3), d.below(2)), id(3+d.below(3), d.below(2)), pool()[d.below(len(pool()))]
	switch d.below(10) {
	case 0, 1:
		return adv(tree, p...)
	case 2:
		return unadv(tree)
	case 3, 4, 5:
		return sub(tree, x, p...)
	case 6:
		return unsub(tree, x)
	case 7, 8:
		return pub(tree, x, samples()[d.below(len(samples()))]...)
	}
	return api.Message{Kind: 6 * d.below(2), Tree: tree, ID: x, Pred: p}
}

// visit does long ways of messages, and shows each step on the way.
func visit(show func(b api.Broker, from int, m api.Message)) {
	for seed := range 60 {
		d := dice(seed)
		b := adverts.New(0, 2, 5, 7)
		b, _ = flood.Advertise(b, api.Local, id(0, 0), nil)
		for range 150 {
			if d.below(12) == 0 {
				b, _ = route.Subscribe(b, id(6+d.below(2), d.below(3)), pool()[d.below(len(pool()))])
			}
			if d.below(40) == 0 {
				b, _ = route.Unsubscribe(b, id(6+d.below(2), d.below(3)))
			}
			if d.below(40) == 0 {
				// What was seen isn't taken again: so now and then it forgets what is gone.
				b.Seen = slices.DeleteFunc(slices.Clone(b.Seen), func(x api.ID) bool { _, live := adverts.Find(b, x); return !live })
			}
			from, m := b.Near[d.below(3)], d.message()
			show(b, from, m)
			b, _, _ = parts(b, from, m)
		}
	}
}

// Whatever a broker holds, and whatever comes: it is done as the chapter says.
func TestStepIsItsParts(t *testing.T) {
	visit(func(b api.Broker, from int, m api.Message) {
		after, out, got := broker.Step(b, from, m)
		if answer(after, out, got) != answer(parts(b, from, m)) {
			t.Fatal(b, from, m, after, out, got)
		}
		if !adverts.Right(after) || !subs.Tight(after) {
			t.Fatal("not right any more:", b, from, m, after)
		}
		if m.Kind == api.MPub && !adverts.Same(after, b) {
			t.Fatal("a publication changed it:", b, from, m, after)
		}
		for _, o := range out {
			if !wire.Right(o.M) || !slices.Contains(b.Near, o.To) {
				t.Fatal("can't be sent:", b, from, m, o)
			}
		}
	})
}

// P14.2

// askNone asks whether raw is told to be no message, by the ways that the
// chapter names, and nothing else comes of it.
func askNone(t *testing.T, from int, raw []byte) {
	b, out, got, err := broker.Bytes(full(), from, raw)
	if !adverts.Same(b, full()) || out != nil || got != nil {
		t.Error("something is done:", raw, b, out, got)
	}
	var f *fault.Fault
	if !errors.As(err, &f) || error(f) != err || f.Op != "broker" || f.At != from {
		t.Fatal(raw, err)
	}
	_, inner := wire.Decode(raw)
	if f.Err == nil || told(f.Err) == "" || f.Err.Error() != inner.Error() {
		t.Error("it doesn't wrap wire's:", raw, err)
	}
	if fault.Kind(err) != api.ErrForm || fault.Place(err) != from || !slices.Equal(fault.Trace(err), []string{"broker", "wire"}) || fault.Place(f.Err) != len(raw) {
		t.Error(raw, fault.Kind(err), fault.Place(err), fault.Trace(err), fault.Place(f.Err))
	}
	if want := "broker " + strconv.Itoa(from) + ": wire " + strconv.Itoa(len(raw)) + ": form"; err.Error() != want {
		t.Error(raw, err, want)
	}
	for e := api.Errno(-1); e <= api.ErrLink+1; e++ {
		if errors.Is(err, e) != (e == api.ErrForm) {
			t.Error(raw, e)
		}
	}
}

// askBytes asks whether raw is done as the message that it is, or told to be
// none.
func askBytes(t *testing.T, from int, raw []byte) {
	m, wrong := wire.Decode(raw)
	if wrong != nil {
		askNone(t, from, raw)
		return
	}
	b, out, got, err := broker.Bytes(full(), from, raw)
	if err != nil || answer(b, out, got) != answer(broker.Step(full(), from, m)) {
		t.Error(raw, err, b, out, got)
	}
}

func TestBytes(t *testing.T) {
	for i, q := range cases() {
		raw, err := wire.Encode(q.m)
		if err != nil {
			t.Fatal(i, err)
		}
		b, out, got, err := broker.Bytes(full(), q.from, raw)
		if err != nil || sent(out) != q.out || delivered(got) != q.got || change(full(), b) != q.difference {
			t.Error(i, err, sent(out), "|", delivered(got), "|", change(full(), b))
		}
	}
	visit(func(b api.Broker, from int, m api.Message) {
		raw, err := wire.Encode(m)
		if err != nil {
			return
		}
		after, out, got, err := broker.Bytes(b, from, raw)
		if err != nil || answer(after, out, got) != answer(parts(b, from, m)) {
			t.Fatal(b, from, m, err, after, out, got)
		}
	})
}

// What is broken off, has more behind it, or has one byte changed: it is no
// message, or another one.
func TestBytesOfNone(t *testing.T) {
	for _, q := range cases() {
		raw, err := wire.Encode(q.m)
		if err != nil {
			t.Fatal(err)
		}
		for i := range raw {
			askNone(t, q.from, raw[:i:i])
			for _, x := range []byte{0, 1, 2, 3, 4, 5, 6, 'a', 127, 128, 255} {
				other := slices.Clone(raw)
				other[i] = x
				askBytes(t, q.from, other)
			}
		}
		for _, x := range []byte{0, 1, 255} {
			askNone(t, q.from, append(slices.Clone(raw), x))
		}
		askNone(t, q.from, append([]byte{0}, raw...))
		askNone(t, q.from, append(slices.Clone(raw), raw...))
	}
	for n := range 256 {
		askNone(t, 1, []byte{byte(n)})
	}
	for _, n := range []int{api.MaxBytes - 1, api.MaxBytes, api.MaxBytes + 1, 1 << 16} {
		for _, x := range []byte{0, 1, 5, 255} {
			askNone(t, 1, slices.Repeat([]byte{x}, n))
		}
	}
}

// At is from, whatever that is; and the kind of the fault is wire's.
func TestBytesFromAnywhere(t *testing.T) {
	for _, from := range odd() {
		for _, raw := range [][]byte{nil, {}, {9}, {0}, {1, 2, 3}, {2, 0, 0, 0, 0, 0, 0, 0, 1}} {
			askNone(t, from, raw)
		}
	}
}

// A broker without anything is told the same way.
func TestBytesAtAnyBroker(t *testing.T) {
	for _, b := range []api.Broker{{}, {Me: 7}, adverts.New(3), adverts.New(1, 0, 2)} {
		after, out, got, err := broker.Bytes(b, 2, []byte{1})
		if !adverts.Same(after, b) || out != nil || got != nil || fault.Kind(err) != api.ErrForm {
			t.Error(after, out, got, err)
		}
	}
}

// The chapter's run.
func TestRuns(t *testing.T) {
	_, _, _, err := broker.Bytes(full(), 2, []byte{9})
	if !errors.Is(err, api.ErrForm) || !slices.Equal(fault.Trace(err), []string{"broker", "wire"}) || err.Error() != "broker 2: wire 1: form" {
		t.Error(err)
	}
}

// P14.3

func TestQuiet(t *testing.T) {
	for i, q := range cases() {
		want := q.out == "" && q.got == "" && q.difference == ""
		if broker.Quiet(full(), q.from, q.m) != want {
			t.Error(i, q.m, !want)
		}
	}
}

// Where it is one of the three alone that tells.
func TestQuietByOne(t *testing.T) {
	leaf := adverts.New(0, 1)
	known, _ := flood.Advertise(leaf, 1, first, nil)
	covered, _ := route.OnSub(full(), 3, sub(first, id(8, 0), span(2, 3)))
	for i, q := range []struct {
		b                       api.Broker
		from                    int
		m                       api.Message
		changes, puts, delivers bool
	}{
		{leaf, 1, adv(first), true, false, false},
		{known, 1, unadv(first), true, false, false},
		{full(), 3, sub(first, id(8, 0), span(2, 3)), true, false, false},
		{covered, 3, unsub(first, id(8, 0)), true, false, false},
		{full(), 1, pub(first, id(9, 4), num(1)), false, true, false},
		{full(), 3, pub(side, id(9, 4), num(2)), false, false, true},
		{known, 1, adv(first), false, false, false},
		{known, 1, pub(first, id(9, 4), num(2)), false, false, false},
		{leaf, 1, unadv(first), false, false, false},
	} {
		b, out, got := broker.Step(q.b, q.from, q.m)
		if adverts.Same(b, q.b) == q.changes || (len(out) > 0) != q.puts || (len(got) > 0) != q.delivers {
			t.Fatal(i, b, out, got)
		}
		if broker.Quiet(q.b, q.from, q.m) != (!q.changes && !q.puts && !q.delivers) {
			t.Error(i)
		}
	}
}

// Of each kind there is what is quiet, and, of the five, what isn't.
func TestQuietIsWhatStepDoes(t *testing.T) {
	var often [7][2]int
	visit(func(b api.Broker, from int, m api.Message) {
		after, out, got := parts(b, from, m)
		want := len(out) == 0 && len(got) == 0 && told(after) == told(b)
		if broker.Quiet(b, from, m) != want {
			t.Fatal(b, from, m)
		}
		if want {
			often[m.Kind][0]++
		} else {
			often[m.Kind][1]++
		}
	})
	for kind, n := range often {
		is := api.MAdv <= kind && kind <= api.MPub
		if n[0] < 50 || (n[1] >= 50) != is || (n[1] > 0) != is {
			t.Error("not asked enough:", kind, n)
		}
	}
}

// What is done once changes nothing the second time, but for publications:
// that these come once is for links to see to.
func TestTwice(t *testing.T) {
	visit(func(b api.Broker, from int, m api.Message) {
		after, _, _ := broker.Step(b, from, m)
		if m.Kind != api.MPub && !broker.Quiet(after, from, m) {
			t.Fatal(b, from, m)
		}
	})
}

// The promises of the whole, as far as brokers keep them.

// way is a link in one direction, and the bytes of what waits there.
type way struct {
	from, to int
	waits    [][]byte
}

// cross is one crossing of a publication.
type cross struct {
	from, to int
	pub      api.ID
}

// offer is an advertisement that is live, and where its client is.
type offer struct {
	id   api.ID
	p    []api.Constraint
	home int
}

// web is brokers, what waits between them, what crossed and what was
// delivered; and what clients hold: client c is at broker c.
type web struct {
	brokers []api.Broker
	ways    []way
	crossed map[cross]int
	got     map[api.ID][]int
	offers  []offer
	owns    []api.Own
	made    [3]int // advertisements, subscriptions, publications
	picks   int
}

func newWeb(g api.Graph) *web {
	w := &web{crossed: map[cross]int{}, got: map[api.ID][]int{}}
	for n := range g.Brokers {
		w.brokers = append(w.brokers, adverts.New(n, graph.Near(g, n)...))
	}
	for _, l := range graph.Ways(g) {
		w.ways = append(w.ways, way{from: l[0], to: l[1]})
	}
	return w
}

// put takes what a broker answered.
func (w *web) put(t *testing.T, n int, b api.Broker, out []api.Out, got []api.Delivery) {
	w.brokers[n] = b
	for _, o := range out {
		at := slices.IndexFunc(w.ways, func(x way) bool { return x.from == n && x.to == o.To })
		raw, err := wire.Encode(o.M)
		if err != nil {
			t.Fatal(n, o, err)
		}
		w.ways[at].waits = append(w.ways[at].waits, raw)
		if o.M.Kind == api.MPub {
			w.crossed[cross{n, o.To, o.M.ID}]++
		}
	}
	for _, d := range got {
		if !slices.ContainsFunc(b.Owns, func(o api.Own) bool { return o.ID.Client == d.Client && rel.Match(o.Pred, d.Attrs) }) {
			t.Error("delivered to one who doesn't want it:", n, d)
		}
		w.got[d.Pub] = append(w.got[d.Pub], d.Client)
	}
}

// take does what waits first on a way.
func (w *web) take(t *testing.T, x *way) {
	raw := x.waits[0]
	x.waits = x.waits[1:]
	w.picks++
	b, out, got, err := broker.Bytes(w.brokers[x.to], x.from, raw)
	if err != nil {
		t.Fatal(raw, err)
	}
	w.put(t, x.to, b, out, got)
}

// pick does something that waits; false, if nothing does.
func (w *web) pick(t *testing.T, d *dice) bool {
	var busy []int
	for i, x := range w.ways {
		if len(x.waits) > 0 {
			busy = append(busy, i)
		}
	}
	if len(busy) == 0 {
		return false
	}
	w.take(t, &w.ways[busy[d.below(len(busy))]])
	return true
}

// bound is how many picks there may be, by what was made.
func (w *web) bound() int {
	l, b := len(w.ways), len(w.brokers)
	return 2*w.made[0]*l + 2*w.made[0]*w.made[1]*b + w.made[2]*l
}

// settle picks till nothing waits, and asks whether that came in time, and
// left tables right (T4).
func (w *web) settle(t *testing.T, d *dice) {
	for w.pick(t, d) {
		if w.picks > w.bound() {
			t.Fatal("it takes too long:", w.made, w.picks)
		}
	}
	for _, b := range w.brokers {
		if !adverts.Right(b) || !subs.Tight(b) {
			t.Fatal(b)
		}
	}
}

// inject gives a broker bytes that are no message: all stays as it was (T5).
func (w *web) inject(t *testing.T, d *dice) {
	n := d.below(len(w.brokers))
	near := append(slices.Clone(w.brokers[n].Near), api.Local)
	raw, _ := wire.Encode(sub(id(n, 0), id(n, 1), span(1, 2)))
	b, out, got, err := broker.Bytes(w.brokers[n], near[d.below(len(near))], raw[:d.below(len(raw))])
	if err == nil || !adverts.Same(b, w.brokers[n]) || out != nil || got != nil {
		t.Error(b, out, got, err)
	}
	w.put(t, n, b, out, got)
}

// act does something that a client may do, but publish.
func (w *web) act(t *testing.T, d *dice) {
	n, p := d.below(len(w.brokers)), pool()[d.below(len(pool()))]
	b, out := w.brokers[n], []api.Out(nil)
	switch d.below(8) {
	case 0, 1:
		x := id(n, w.made[0])
		w.made[0]++
		w.offers = append(w.offers, offer{x, p, n})
		b, out = flood.Advertise(b, api.Local, x, p)
	case 2:
		if len(w.offers) == 0 {
			return
		}
		at := d.below(len(w.offers))
		n = w.offers[at].home
		b, out = flood.Unadvertise(w.brokers[n], api.Local, w.offers[at].id)
		w.offers = slices.Delete(w.offers, at, at+1)
	case 3, 4, 5:
		x := id(n, w.made[1])
		w.made[1]++
		w.owns = append(w.owns, api.Own{ID: x, Pred: p})
		b, out = route.Subscribe(b, x, p)
	default:
		if len(w.owns) == 0 {
			return
		}
		at := d.below(len(w.owns))
		n = w.owns[at].ID.Client
		b, out = route.Unsubscribe(w.brokers[n], w.owns[at].ID)
		w.owns = slices.Delete(w.owns, at, at+1)
	}
	w.put(t, n, b, out, nil)
}

// publish publishes l on the tree of o, and tells its ID.
func (w *web) publish(t *testing.T, o offer, l []api.Attr) api.ID {
	x := id(o.home, w.made[2])
	w.made[2]++
	out, got := carry.Pub(w.brokers[o.home], api.Local, pub(o.id, x, l...))
	w.put(t, o.home, w.brokers[o.home], out, got)
	return x
}

// askOnce asks whether each publication crossed each link once at most, and
// one way alone, and came to each client once at most (T1).
func (w *web) askOnce(t *testing.T) {
	for c, often := range w.crossed {
		if back := w.crossed[cross{c.to, c.from, c.pub}]; often != 1 || back > 0 {
			t.Error("crossed too often:", c, often, back)
		}
	}
	for x, l := range w.got {
		slices.Sort(l)
		if len(slices.Compact(slices.Clone(l))) != len(l) {
			t.Error("delivered too often:", x, l)
		}
	}
}

// askThose publishes l on each tree that allows it, and asks who got it (T2).
func (w *web) askThose(t *testing.T, d *dice, l []api.Attr) {
	var want []int
	for _, o := range w.owns {
		if rel.Match(o.Pred, l) {
			want = append(want, o.ID.Client)
		}
	}
	slices.Sort(want)
	want = slices.Compact(want)
	for _, o := range w.offers {
		if !rel.Match(o.p, l) {
			continue
		}
		x := w.publish(t, o, l)
		w.settle(t, d)
		if slices.Sort(w.got[x]); !slices.Equal(w.got[x], want) {
			t.Fatal(w.brokers, o, l, w.got[x], want)
		}
	}
}

// ring is a graph of n brokers, each joined with the next one.
func ring(n int) api.Graph {
	g := api.Graph{Brokers: n}
	for i := range n {
		g.Links = append(g.Links, [2]int{i, (i + 1) % n})
	}
	return g
}

// webs is graphs of all shapes.
func webs() []api.Graph {
	return []api.Graph{
		{Brokers: 1},
		{Brokers: 2, Links: [][2]int{{0, 1}}},
		ring(3),
		{Brokers: 4, Links: [][2]int{{0, 1}, {0, 2}, {0, 3}}},
		{Brokers: 5, Links: [][2]int{{0, 1}, {1, 2}, {2, 3}, {3, 4}}},
		{Brokers: 5, Links: append(ring(5).Links, [2]int{1, 3})},
		{Brokers: 5, Links: append(ring(5).Links, [][2]int{{0, 2}, {0, 3}, {1, 3}, {1, 4}, {2, 4}}...)},
	}
}

// Whatever clients do, and whichever link delivers next.
func TestWebs(t *testing.T) {
	for i, g := range webs() {
		for seed := range 10 {
			w, d := newWeb(g), dice(100*i+seed)
			for range 50 {
				w.act(t, &d)
				if len(w.offers) > 0 && d.below(2) == 0 {
					o := w.offers[d.below(len(w.offers))]
					w.publish(t, o, rel.Sample(o.p))
				}
				for range d.below(1 + 2*seed) {
					w.pick(t, &d)
				}
				w.inject(t, &d)
			}
			w.settle(t, &d)
			for _, l := range samples() {
				w.askThose(t, &d, l)
			}
			w.askOnce(t)
			if len(w.got) == 0 {
				t.Error(g, seed, "nothing was delivered")
			}
		}
	}
}

// move delivers the first message that waits from one broker to another, and
// tells what comes of it, in words.
func (w *web) move(t *testing.T, from, to int) string {
	at := slices.IndexFunc(w.ways, func(x way) bool { return x.from == from && x.to == to })
	if len(w.ways[at].waits) == 0 {
		t.Fatal("nothing waits:", from, to)
	}
	m, err := wire.Decode(w.ways[at].waits[0])
	if err != nil {
		t.Fatal(err)
	}
	quiet := broker.Quiet(w.brokers[to], from, m)
	_, out, got := broker.Step(w.brokers[to], from, m)
	w.take(t, &w.ways[at])
	if quiet {
		return "passed over"
	}
	return strings.Trim(sent(out)+" | "+delivered(got), " |")
}

// askMoves delivers along links, and asks what comes of each.
func (w *web) askMoves(t *testing.T, moves ...string) {
	for _, s := range moves {
		ends, want, _ := strings.Cut(s, " ")
		if told := w.move(t, int(ends[0]-'0'), int(ends[1]-'0')); told != want {
			t.Error(s, "but", told)
		}
	}
}

// What a client says, at a broker of w.

func (w *web) advertise(t *testing.T, n int, x api.ID, p ...api.Constraint) {
	b, out := flood.Advertise(w.brokers[n], api.Local, x, p)
	w.put(t, n, b, out, nil)
}

func (w *web) unadvertise(t *testing.T, n int, x api.ID) {
	b, out := flood.Unadvertise(w.brokers[n], api.Local, x)
	w.put(t, n, b, out, nil)
}

func (w *web) subscribe(t *testing.T, n int, x api.ID, p ...api.Constraint) {
	b, out := route.Subscribe(w.brokers[n], x, p)
	w.put(t, n, b, out, nil)
}

func (w *web) unsubscribe(t *testing.T, n int, x api.ID) {
	b, out := route.Unsubscribe(w.brokers[n], x)
	w.put(t, n, b, out, nil)
}

// The whole's examples 1, 6 and 7, in a ring of three: an advertisement comes
// both ways; it is taken back while a subscription is on its way up; its last
// echo comes behind its end.
func TestExamplesInARing(t *testing.T) {
	w, x, y := newWeb(ring(3)), id(0, 0), id(2, 5)
	w.advertise(t, 0, x, span(1, 9))
	w.subscribe(t, 2, y, span(2, 3))
	w.askMoves(t,
		"01 2:adv 0.0 a:1..9",
		"12 0:adv 0.0 a:1..9; 1:sub 0.0 2.5 a:2..3",
		"02 passed over",
	)
	w.unadvertise(t, 0, x)
	w.askMoves(t,
		"21 0:sub 0.0 2.5 a:2..3",
		"01 2:unadv 0.0",
		"12 0:unadv 0.0",
		"10 passed over",
		"20 passed over",
		"20 passed over",
		"02 passed over",
	)
	for _, b := range w.brokers {
		if len(b.Adverts)+len(b.Entries) > 0 || !adverts.Seen(b, x) {
			t.Error(b)
		}
	}
	if d := dice(0); w.pick(t, &d) {
		t.Error("something waits")
	}
}

// The whole's examples 2, 3, 4, 5 and 8, in a row of three: a subscription that
// comes ahead; a narrow one behind a wide one, that is taken back; two that
// match of one client; and one that is taken back while a publication comes.
func TestExamplesInARow(t *testing.T) {
	w, x := newWeb(api.Graph{Brokers: 3, Links: [][2]int{{0, 1}, {1, 2}}}), id(0, 0)
	w.subscribe(t, 1, id(1, 2), span(1, 9))
	w.advertise(t, 0, x, span(1, 9))
	w.askMoves(t, "01 2:adv 0.0 a:1..9; 0:sub 0.0 1.2 a:1..9", "10", "12")
	w.subscribe(t, 2, id(2, 1), span(2, 5))
	w.askMoves(t, "21")
	w.unsubscribe(t, 1, id(1, 2))
	w.askMoves(t, "10", "10")
	w.subscribe(t, 2, id(2, 2), span(4, 8))
	w.askMoves(t, "21 0:sub 0.0 2.2 a:4..8", "10")
	o := offer{id: x}
	w.publish(t, o, []api.Attr{num(4)})
	w.askMoves(t, "01 2:pub 0.0 a=4", "12 2=0.0 a=4")
	w.publish(t, o, []api.Attr{num(8)})
	w.askMoves(t, "01 2:pub 0.0 0.1 a=8")
	w.unsubscribe(t, 2, id(2, 2))
	w.askMoves(t, "12 passed over", "21 0:unsub 0.0 2.2", "10")
	w.publish(t, o, []api.Attr{num(8)})
	if d := dice(0); w.pick(t, &d) || len(w.got) != 1 {
		t.Error(w.got)
	}
}

// The rules R1 to R5.

// room is l with room behind it, and what stands there.
func room[T any](l []T, x ...T) []T {
	return append(slices.Clone(l), x...)[:len(l)]
}

// preds is where b's predicates stand, those in its spare room too.
func preds(b api.Broker) []*[]api.Constraint {
	var l []*[]api.Constraint
	for i := range b.Adverts[:cap(b.Adverts)] {
		l = append(l, &b.Adverts[:cap(b.Adverts)][i].Pred)
	}
	for i := range b.Entries[:cap(b.Entries)] {
		l = append(l, &b.Entries[:cap(b.Entries)][i].Pred)
	}
	for i := range b.Owns[:cap(b.Owns)] {
		l = append(l, &b.Owns[:cap(b.Owns)][i].Pred)
	}
	return l
}

// roomy is full, with room behind each list, and what stands there: it would
// tell, if it were read.
func roomy() api.Broker {
	b := full()
	for _, p := range preds(b) {
		*p = room(*p, text("room", "a"), text("room", "b"))
	}
	b.Near = room(b.Near, 88, 88)
	b.Seen = room(b.Seen, fresh, id(88, 1))
	b.Adverts = room(b.Adverts, api.Advert{ID: fresh, Parent: 1}, api.Advert{ID: id(88, 1), Parent: 1})
	b.Entries = room(b.Entries, api.Entry{Tree: side, Sub: id(88, 0), From: 2, Up: true}, api.Entry{Tree: fresh, Sub: id(88, 1), From: 2})
	b.Owns = room(b.Owns, api.Own{ID: id(3, 0)}, api.Own{ID: id(88, 1)})
	return b
}

// roomyMessage is m with room behind each of its lists.
func roomyMessage(m api.Message) api.Message {
	m.Pred = room(m.Pred, text("room", "a"), text("room", "b"))
	m.Attrs = room(m.Attrs, num(4), word("room", "a"))
	return m
}

// whole is all that stands in b's memory, in its spare room too.
func whole(b api.Broker) string {
	b.Near, b.Seen = b.Near[:cap(b.Near)], b.Seen[:cap(b.Seen)]
	b.Adverts, b.Entries, b.Owns = b.Adverts[:cap(b.Adverts)], b.Entries[:cap(b.Entries)], b.Owns[:cap(b.Owns)]
	s := told(b)
	for _, p := range preds(b) {
		s += told((*p)[:cap(*p)])
	}
	return s
}

// wholeMessage is all that stands in m's memory, in its spare room too.
func wholeMessage(m api.Message) string {
	return told(m) + told(m.Pred[:cap(m.Pred)]) + told(m.Attrs[:cap(m.Attrs)])
}

// spoil writes over the whole of l, its spare room too.
func spoil[T any](l []T, x T) {
	l = l[:cap(l)]
	for i := range l {
		l[i] = x
	}
}

// spoilMessage writes over what m holds.
func spoilMessage(m api.Message) {
	spoil(m.Pred, text("spoilt", "spoilt"))
	spoil(m.Attrs, word("spoilt", "spoilt"))
}

// spoilBroker writes over all that b holds.
func spoilBroker(b api.Broker) {
	for _, p := range preds(b) {
		spoil(*p, text("spoilt", "spoilt"))
	}
	spoil(b.Near, 77)
	spoil(b.Seen, id(77, 77))
	spoil(b.Adverts, api.Advert{ID: id(77, 77), Parent: 77})
	spoil(b.Entries, api.Entry{Tree: id(77, 77), Sub: id(77, 77), From: 77})
	spoil(b.Owns, api.Own{ID: id(77, 77)})
}

// spoilOuts writes over what was put out and delivered.
func spoilOuts(out []api.Out, got []api.Delivery) {
	for _, o := range out {
		spoilMessage(o.M)
	}
	for _, d := range got {
		spoil(d.Attrs, word("spoilt", "spoilt"))
	}
	spoil(out, api.Out{To: 77})
	spoil(got, api.Delivery{Client: 77})
}

// R2, R5: what is handed in isn't changed, its spare room included, nor is that
// read.
func TestWhatIsHandedInStays(t *testing.T) {
	for i, q := range cases() {
		b, m := roomy(), roomyMessage(q.m)
		was := wholeMessage(m)
		after, out, got := broker.Step(b, q.from, m)
		if sent(out) != q.out || delivered(got) != q.got || change(full(), after) != q.difference {
			t.Error("spare room is read:", i, sent(out), delivered(got), change(full(), after))
		}
		if broker.Quiet(b, q.from, m) != (q.out == "" && q.got == "" && q.difference == "") {
			t.Error("spare room is read:", i)
		}
		raw, _ := wire.Encode(q.m)
		behind := room(raw, 1, 2, 3)
		if _, _, _, err := broker.Bytes(b, q.from, behind); err != nil || !slices.Equal(behind[:len(raw)+3], append(raw, 1, 2, 3)) {
			t.Error("changed:", i, err, behind)
		}
		if whole(b) != whole(roomy()) || wholeMessage(m) != was {
			t.Error("changed:", i, b, m)
		}
	}
}

// R2: nothing of what was handed in is kept, and what is put out and delivered
// is new memory, that the broker has no part in. A broker that changed shares
// nothing with the one that was handed in.
func TestAnswersAreNew(t *testing.T) {
	for i, q := range cases() {
		b, m := roomy(), roomyMessage(q.m)
		was := wholeMessage(m)
		after, out, got := broker.Step(b, q.from, m)
		left := told(after)
		if spoilOuts(out, got); told(after) != left || whole(b) != whole(roomy()) || wholeMessage(m) != was {
			t.Error("shared with what goes out:", i, after, b, m)
		}
		if q.difference != "" {
			if spoilBroker(after); whole(b) != whole(roomy()) || wholeMessage(m) != was {
				t.Error("shared with the one there was:", i, b, m)
			}
		}
		after, out, got = broker.Step(b, q.from, m)
		want := answer(after, out, got)
		spoilMessage(m)
		if answer(after, out, got) != want {
			t.Error("kept of the message:", i, after, out, got)
		}
		want = told(out) + told(got)
		spoilBroker(b)
		if told(out)+told(got) != want || (q.difference != "" && told(after) != left) {
			t.Error("kept of the broker:", i, after, out, got)
		}
	}
}

// R2: bytes that were handed in may change behind its back.
func TestBytesAreNotKept(t *testing.T) {
	for i, q := range cases() {
		raw, _ := wire.Encode(q.m)
		b, out, got, err := broker.Bytes(full(), q.from, raw)
		want := answer(b, out, got)
		if spoil(raw, 77); err != nil || answer(b, out, got) != want {
			t.Error(i, err, b, out, got)
		}
	}
}

// R2: no two lists of an answer share any.
func TestListsApart(t *testing.T) {
	for i, q := range cases() {
		_, out, got := broker.Step(full(), q.from, roomyMessage(q.m))
		for at := range out {
			rest := told(out[at+1:]) + told(got)
			if spoilMessage(out[at].M); told(out[at+1:])+told(got) != rest {
				t.Error(i, out, got)
			}
		}
		for at := range got {
			rest := told(got[at+1:])
			if spoil(got[at].Attrs, num(77)); told(got[at+1:]) != rest {
				t.Error(i, got)
			}
		}
	}
}

// R4: nil and empty lists mean the same; and the same is answered each time.
func TestNilAndEmpty(t *testing.T) {
	filled := func(m api.Message) api.Message {
		if m.Pred == nil {
			m.Pred = list()
		}
		if m.Attrs == nil {
			m.Attrs = []api.Attr{}
		}
		return m
	}
	for i, q := range cases() {
		want := answer(broker.Step(full(), q.from, q.m))
		for range 3 {
			if answer(broker.Step(full(), q.from, filled(q.m))) != want || broker.Quiet(full(), q.from, q.m) != broker.Quiet(full(), q.from, filled(q.m)) {
				t.Error(i, q.m)
			}
		}
	}
	none := api.Broker{Near: []int{}, Adverts: []api.Advert{}, Seen: []api.ID{}, Entries: []api.Entry{}, Owns: []api.Own{}}
	for i, q := range cases() {
		if answer(broker.Step(none, q.from, q.m)) != answer(broker.Step(api.Broker{}, q.from, q.m)) || broker.Quiet(none, q.from, q.m) != broker.Quiet(api.Broker{}, q.from, q.m) {
			t.Error(i, q.m)
		}
	}
}

// crooked is brokers that are not right.
func crooked() []api.Broker {
	var l []api.Broker
	for _, do := range []func(b *api.Broker){
		func(b *api.Broker) { slices.Reverse(b.Entries) },
		func(b *api.Broker) { slices.Reverse(b.Owns) },
		func(b *api.Broker) { slices.Reverse(b.Adverts) },
		func(b *api.Broker) { b.Owns = append(b.Owns, b.Owns...) },
		func(b *api.Broker) { b.Adverts = append(b.Adverts, b.Adverts...) },
		func(b *api.Broker) { b.Entries = append(b.Entries, b.Entries...) },
		func(b *api.Broker) { b.Near, b.Seen, b.Adverts = nil, nil, nil },
		func(b *api.Broker) { b.Seen, b.Near = nil, []int{3, 3, math.MaxInt, -1, 0, math.MinInt} },
		func(b *api.Broker) {
			for i := range b.Adverts {
				b.Adverts[i].Parent = odd()[i]
			}
			for i := range b.Entries {
				b.Entries[i].From, b.Entries[i].Up = odd()[i%len(odd())], i%2 == 0
			}
		},
		func(b *api.Broker) {
			for _, p := range preds(*b) {
				*p = list(api.Constraint{}, span(3, 1), span(1, 2), begin("a", "abcdefghijklmnop"), api.Constraint{Name: "a", Kind: 99})
			}
		},
	} {
		b := full()
		do(&b)
		l = append(l, b)
	}
	return l
}

// R1: whatever is given, every call ends, and none panics.
func TestOfWhateverEnds(t *testing.T) {
	wrong := list(api.Constraint{}, span(3, 1), api.Constraint{Name: "\xff", Kind: -1, Lo: 7, Text: "\x00"}, text("a", "abcdefghijklmnop"))
	attrs := []api.Attr{{}, num(2), num(2), {Name: "\xff", Value: api.Value{IsText: true, N: 3, Text: "\x00"}}}
	for _, b := range append(crooked(), full(), api.Broker{}) {
		was := whole(b)
		for _, from := range append(odd(), 3) {
			for kind := -1; kind <= 6; kind++ {
				for _, tree := range []api.ID{{}, root, first, side, gone, fresh, id(from, from), id(math.MinInt, math.MaxInt)} {
					for _, x := range []api.ID{{}, id(6, 0), id(2, 1), id(from, -from)} {
						m := api.Message{Kind: kind, Tree: tree, ID: x, Pred: wrong, Attrs: attrs}
						broker.Step(b, from, m)
						broker.Quiet(b, from, m)
						m.Pred, m.Attrs = nil, nil
						broker.Step(b, from, m)
						broker.Quiet(b, from, m)
						broker.Bytes(b, from, []byte{byte(kind), byte(from)})
					}
				}
			}
		}
		if whole(b) != was {
			t.Error("changed:", b)
		}
	}
}

func TestLongRows(t *testing.T) {
	const long = 1 << 11
	b := api.Broker{Adverts: []api.Advert{{ID: first, Parent: 0}}, Seen: []api.ID{first}}
	for i := range long {
		b.Near = append(b.Near, i)
		if i > 0 {
			b.Entries = append(b.Entries, api.Entry{Tree: first, Sub: id(1, i), Pred: list(span(0, i)), From: i, Up: true})
		}
	}
	if !adverts.Right(b) {
		t.Fatal("it isn't right")
	}
	for _, q := range []struct {
		from int
		m    api.Message
		outs int
	}{
		{5, adv(fresh), long - 1},
		{0, unadv(first), long - 1},
		{7, sub(first, id(9, 0), span(0, long)), 1},
		{7, unsub(first, id(1, 7)), 1},
		{0, pub(first, id(9, 0), num(100)), long - 100},
	} {
		if _, out, _ := broker.Step(b, q.from, q.m); len(out) != q.outs || broker.Quiet(b, q.from, q.m) {
			t.Error(q.m.Kind, len(out))
		}
	}
}
