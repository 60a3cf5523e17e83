package wire_test

import (
	"bytes"
	"errors"
	"math"
	"slices"
	"strings"
	"testing"

	"broadside/api"
	"broadside/fault"
	"broadside/wire"
)

func id(client, seq int) api.ID { return api.ID{Client: client, Seq: seq} }

func span(name string, lo, hi int) api.Constraint {
	return api.Constraint{Name: name, Kind: api.CRange, Lo: lo, Hi: hi}
}

func text(name, s string) api.Constraint {
	return api.Constraint{Name: name, Kind: api.CText, Text: s}
}

func prefix(name, s string) api.Constraint {
	return api.Constraint{Name: name, Kind: api.CPrefix, Text: s}
}

func number(name string, n int) api.Attr {
	return api.Attr{Name: name, Value: api.Value{N: n}}
}

func word(name, s string) api.Attr {
	return api.Attr{Name: name, Value: api.Value{IsText: true, Text: s}}
}

func list(l ...api.Constraint) []api.Constraint { return l }

func attrs(l ...api.Attr) []api.Attr { return l }

// What a name and a text may have at most.
const (
	longName = "abcdefghijkl"
	longText = "\xff\x00\"\\\nABC12é"
)

// ids is right ones, edges among them.
func ids() []api.ID {
	return []api.ID{id(0, 0), id(1, 2), id(31, 0), id(0, math.MaxInt), id(31, math.MaxInt)}
}

// wrongIDs is such as no client may have given.
func wrongIDs() []api.ID {
	return []api.ID{id(-1, 0), id(32, 0), id(0, -1), id(31, -1), id(32, -1), id(-1, -1), id(math.MinInt, 0), id(math.MaxInt, 0), id(0, math.MinInt), id(256, 0), id(1<<32, 0)}
}

// preds is right predicates: each kind and edge, and those of most bytes.
func preds() [][]api.Constraint {
	return [][]api.Constraint{
		nil,
		{},
		list(span("a", 0, 0)),
		list(span("a", -5, -5)),
		list(span("a", math.MinInt, math.MaxInt)),
		list(text("a", "")),
		list(prefix("a", "")),
		list(text("a", longText)),
		list(prefix("a", longText[:11])),
		list(text("a", "x"), prefix("aa", "x"), span("b", 1, 2)),
		list(span(longName, math.MinInt, 5), text("b", "\x00"), prefix("c", "xy")),
		fullPred(),
	}
}

func fullPred() []api.Constraint {
	var l []api.Constraint
	for _, low := range "abcde" {
		l = append(l, span(string(low)+longName[:11], math.MinInt, int(low)))
	}
	return l
}

// wrongPreds is such as aren't in normal form.
func wrongPreds() [][]api.Constraint {
	return [][]api.Constraint{
		list(span("a", 2, 1)),
		list(span("A", 1, 2)),
		list(span("", 1, 2)),
		list(span(longName+"m", 1, 2)),
		list(text("a", longText+"x")),
		list(prefix("a", longText)),
		list(span("b", 1, 2), span("a", 1, 2)),
		list(span("a", 1, 2), span("a", 1, 2)),
		list(span("a", 1, 2), text("a", "x")),
		append(fullPred(), span("f", 1, 2)),
		list(api.Constraint{Name: "a"}),
		list(api.Constraint{Name: "a", Kind: 4}),
		list(api.Constraint{Name: "a", Kind: -1}),
		list(api.Constraint{Name: "a", Kind: 256 + api.CRange}),
		list(api.Constraint{Name: "a", Kind: api.CRange, Text: "x"}),
		list(api.Constraint{Name: "a", Kind: api.CText, Lo: 1}),
		list(api.Constraint{Name: "a", Kind: api.CText, Hi: 1}),
		list(api.Constraint{Name: "a", Kind: api.CPrefix, Lo: -1, Hi: 1}),
		list(text("a", strings.Repeat("x", 300))),
		make([]api.Constraint, 1),
		make([]api.Constraint, 5),
		make([]api.Constraint, 257),
	}
}

// pubs is right publications: each kind and edge, and those of most bytes.
func pubs() [][]api.Attr {
	return [][]api.Attr{
		nil,
		{},
		attrs(number("a", 0)),
		attrs(number("a", -1)),
		attrs(number("a", math.MinInt), number("b", math.MaxInt)),
		attrs(word("a", "")),
		attrs(word("a", longText)),
		attrs(word("a", "x"), word("aa", "\x00"), number("b", 1<<40)),
		attrs(number(longName, 7), word("b", "x")),
		fullPub(),
	}
}

func fullPub() []api.Attr {
	var l []api.Attr
	for _, low := range "abcde" {
		l = append(l, word(string(low)+longName[:11], longText))
	}
	return l
}

// wrongPubs is such as may not be published.
func wrongPubs() [][]api.Attr {
	return [][]api.Attr{
		attrs(number("A", 1)),
		attrs(number("", 1)),
		attrs(number(longName+"m", 1)),
		attrs(word("a", longText+"x")),
		attrs(number("b", 1), number("a", 1)),
		attrs(number("a", 1), number("a", 1)),
		append(fullPub(), number("f", 1)),
		attrs(api.Attr{Name: "a", Value: api.Value{N: 1, Text: "x"}}),
		attrs(api.Attr{Name: "a", Value: api.Value{N: 1, Text: "x", IsText: true}}),
		attrs(api.Attr{Name: "a", Value: api.Value{N: 1, IsText: true}}),
		make([]api.Attr, 1),
		make([]api.Attr, 5),
		make([]api.Attr, 257),
	}
}

// A kind of messages: what it asks beside Tree.
type kind struct {
	kind          int
	id, pred, pub bool
}

func kinds() []kind {
	return []kind{
		{api.MAdv, false, true, false},
		{api.MUnadv, false, false, false},
		{api.MSub, true, true, false},
		{api.MUnsub, true, false, false},
		{api.MPub, true, false, true},
	}
}

// ones is each of l, where it is asked; else what stands for it where it isn't.
func ones[T any](asked bool, l []T) []T {
	if asked {
		return l
	}
	var none T
	return []T{none}
}

// messages is right ones of all kinds.
func messages() []api.Message {
	var l []api.Message
	for _, k := range kinds() {
		for _, tree := range ids() {
			for _, x := range ones(k.id, ids()) {
				for _, p := range ones(k.pred, preds()) {
					for _, a := range ones(k.pub, pubs()) {
						l = append(l, api.Message{Kind: k.kind, Tree: tree, ID: x, Pred: p, Attrs: a})
					}
				}
			}
		}
	}
	return l
}

// wrong is messages in which one thing is wrong, or there that isn't asked.
func wrong() []api.Message {
	var l []api.Message
	for _, n := range []int{math.MinInt, -1, 0, 6, 7, 255, 256, 256 + api.MUnadv, 1<<32 + api.MUnadv, math.MaxInt} {
		l = append(l, api.Message{Kind: n}, api.Message{Kind: n, Tree: id(1, 2), ID: id(3, 4)})
	}
	for _, k := range kinds() {
		fine := api.Message{Kind: k.kind, Tree: id(1, 2)}
		badIDs := []api.ID{id(1, 0), id(0, 1), id(-1, 0), id(0, -1)}
		badPreds := [][]api.Constraint{list(span("a", 1, 2)), make([]api.Constraint, 1), fullPred()}
		badPubs := [][]api.Attr{attrs(number("a", 1)), make([]api.Attr, 1), fullPub()}
		if k.id {
			fine.ID = id(3, 4)
			badIDs = wrongIDs()
		}
		if k.pred {
			badPreds = wrongPreds()
		}
		if k.pub {
			badPubs = wrongPubs()
		}
		for _, tree := range wrongIDs() {
			m := fine
			m.Tree = tree
			l = append(l, m)
		}
		for _, x := range badIDs {
			m := fine
			m.ID = x
			l = append(l, m)
		}
		for _, p := range badPreds {
			m := fine
			m.Pred = p
			l = append(l, m)
		}
		for _, a := range badPubs {
			m := fine
			m.Attrs = a
			l = append(l, m)
		}
	}
	return l
}

// eight is n's bytes.
func eight(n int) string {
	var b [8]byte
	for i := range b {
		b[i] = byte(uint64(n) >> (56 - 8*i))
	}
	return string(b[:])
}

// told is a text's length and bytes.
func told(s string) string { return string([]byte{byte(len(s))}) + s }

// written is the bytes of a right message, put together as the chapter says.
func written(m api.Message) []byte {
	b := string([]byte{byte(m.Kind)}) + eight(m.Tree.Client) + eight(m.Tree.Seq)
	if m.Kind >= api.MSub {
		b += eight(m.ID.Client) + eight(m.ID.Seq)
	}
	if m.Kind == api.MAdv || m.Kind == api.MSub {
		b += string([]byte{byte(len(m.Pred))})
		for _, c := range m.Pred {
			b += told(c.Name) + string([]byte{byte(c.Kind)})
			if c.Kind == api.CRange {
				b += eight(c.Lo) + eight(c.Hi)
			} else {
				b += told(c.Text)
			}
		}
	}
	if m.Kind == api.MPub {
		b += string([]byte{byte(len(m.Attrs))})
		for _, a := range m.Attrs {
			if b += told(a.Name); a.Value.IsText {
				b += "\x01" + told(a.Value.Text)
			} else {
				b += "\x00" + eight(a.Value.N)
			}
		}
	}
	return []byte(b)
}

// copied is m in memory of its own.
func copied(m api.Message) api.Message {
	m.Pred, m.Attrs = slices.Clone(m.Pred), slices.Clone(m.Attrs)
	return m
}

// equal says whether all fields are alike.
func equal(a, b api.Message) bool {
	return a.Kind == b.Kind && a.Tree == b.Tree && a.ID == b.ID && slices.Equal(a.Pred, b.Pred) && slices.Equal(a.Attrs, b.Attrs)
}

func zero(m api.Message) bool {
	return m.Kind == 0 && m.Tree == id(0, 0) && m.ID == id(0, 0) && len(m.Pred) == 0 && len(m.Attrs) == 0
}

// faulty asks for a Fault of op wire and ErrForm, at that place, and no other
// Fault.
func faulty(t *testing.T, err error, at int) {
	t.Helper()
	var f *fault.Fault
	if !errors.As(err, &f) {
		t.Errorf("%v: no Fault", err)
		return
	}
	if f.Op != "wire" || f.At != at || f.Err != api.ErrForm || !errors.Is(err, api.ErrForm) || errors.Is(err, api.ErrFull) {
		t.Errorf("%v: want one at %d", err, at)
	}
	if fault.Kind(err) != api.ErrForm || fault.Place(err) != at || !slices.Equal(fault.Trace(err), []string{"wire"}) {
		t.Errorf("%v: want one at %d", err, at)
	}
}

// refused asks Decode to make nothing of b.
func refused(t *testing.T, b []byte) {
	t.Helper()
	m, err := wire.Decode(b)
	if !zero(m) {
		t.Errorf("%.200q: %v", b, m)
	}
	faulty(t, err, len(b))
}

// P8.1

func TestRight(t *testing.T) {
	if len(messages()) != 640 {
		t.Error(len(messages()), "messages")
	}
	for _, m := range messages() {
		if !wire.Right(m) {
			t.Errorf("%v isn't right", m)
		}
	}
}

func TestRightOfWrongOnes(t *testing.T) {
	for _, m := range wrong() {
		if wire.Right(m) {
			t.Errorf("%v is right", m)
		}
	}
	if wire.Right(api.Message{}) {
		t.Error("zero is right")
	}
}

func TestRightOfAllKinds(t *testing.T) {
	for n := -300; n < 600; n++ {
		if got := wire.Right(api.Message{Kind: n}); got != (1 <= n && n <= 5) {
			t.Error(n, got)
		}
	}
}

func TestRightOfAllClients(t *testing.T) {
	for n := -300; n < 600; n++ {
		for _, seq := range []int{-1, 0, 1} {
			want := 0 <= n && n < 32 && seq >= 0
			for _, k := range kinds() {
				if got := wire.Right(api.Message{Kind: k.kind, Tree: id(n, seq)}); got != want {
					t.Error(k.kind, "of tree", n, seq, got)
				}
				wants := want
				if !k.id {
					wants = n == 0 && seq == 0
				}
				if got := wire.Right(api.Message{Kind: k.kind, ID: id(n, seq)}); got != wants {
					t.Error(k.kind, "of", n, seq, got)
				}
			}
		}
	}
}

// R4: an empty list is zero, where it isn't asked, too.
func TestRightOfEmptyLists(t *testing.T) {
	for _, k := range kinds() {
		m := api.Message{Kind: k.kind, Pred: []api.Constraint{}, Attrs: []api.Attr{}}
		if !wire.Right(m) || !wire.Same(m, api.Message{Kind: k.kind}) || !wire.Same(api.Message{Kind: k.kind}, m) {
			t.Error(k.kind)
		}
		b, err := wire.Encode(m)
		if err != nil || !bytes.Equal(b, written(m)) {
			t.Error(k.kind, b, err)
		}
	}
}

func TestSame(t *testing.T) {
	all := append(messages()[:60:60], wrong()...)
	for _, m := range messages() {
		if m.Tree == id(1, 2) && (m.ID == id(1, 2) || m.ID == id(31, math.MaxInt)) {
			all = append(all, m)
		}
	}
	for _, a := range all {
		for _, b := range all {
			if wire.Same(a, copied(b)) != equal(a, b) {
				t.Errorf("Same of %v and %v", a, b)
			}
		}
	}
}

// Each field counts, whatever the Kind asks; and each field of what is in it.
func TestSameLooksAtEachField(t *testing.T) {
	for n := range 8 {
		m := api.Message{Kind: n, Tree: id(1, 2), ID: id(3, 4), Pred: list(span("a", 1, 2), text("b", "x")), Attrs: attrs(number("a", 1), word("b", "x"))}
		var all []api.Message
		for range 17 {
			all = append(all, copied(m))
		}
		all[1].Kind += 8
		all[2].Tree.Client = 0
		all[3].Tree.Seq = 0
		all[4].ID.Client = 0
		all[5].ID.Seq = 0
		all[6].Pred[1].Name = "c"
		all[7].Pred[0].Kind = 9
		all[8].Pred[0].Lo = 0
		all[9].Pred[0].Hi = 3
		all[10].Pred[1].Text = "y"
		all[11].Pred = all[11].Pred[:1]
		all[12].Attrs[1].Name = "c"
		all[13].Attrs[0].Value.N = 2
		all[14].Attrs[0].Value.IsText = true
		all[15].Attrs[1].Value.Text = "y"
		all[16].Attrs = all[16].Attrs[:1]
		for i, a := range all {
			for k, b := range all {
				if wire.Same(a, b) != (i == k) {
					t.Errorf("Same of %v and %v", a, b)
				}
			}
		}
	}
}

// P8.2

func TestEncode(t *testing.T) {
	for _, q := range []struct {
		m    api.Message
		want string
	}{
		{
			api.Message{Kind: api.MAdv, Tree: id(1, 2)},
			"\x01" + "\x00\x00\x00\x00\x00\x00\x00\x01" + "\x00\x00\x00\x00\x00\x00\x00\x02" + "\x00",
		},
		{
			api.Message{Kind: api.MAdv, Tree: id(31, 258), Pred: list(span("a", -1, 5), text("bc", ""), prefix("d", "xy"))},
			"\x01" + "\x00\x00\x00\x00\x00\x00\x00\x1f" + "\x00\x00\x00\x00\x00\x00\x01\x02" + "\x03" +
				"\x01a" + "\x01" + "\xff\xff\xff\xff\xff\xff\xff\xff" + "\x00\x00\x00\x00\x00\x00\x00\x05" +
				"\x02bc" + "\x02" + "\x00" +
				"\x01d" + "\x03" + "\x02xy",
		},
		{
			api.Message{Kind: api.MUnadv, Tree: id(1, 2)},
			"\x02" + "\x00\x00\x00\x00\x00\x00\x00\x01" + "\x00\x00\x00\x00\x00\x00\x00\x02",
		},
		{
			api.Message{Kind: api.MSub, Tree: id(1, 2), ID: id(3, 4), Pred: list(text("b", "\x00\xff"))},
			"\x03" + "\x00\x00\x00\x00\x00\x00\x00\x01" + "\x00\x00\x00\x00\x00\x00\x00\x02" +
				"\x00\x00\x00\x00\x00\x00\x00\x03" + "\x00\x00\x00\x00\x00\x00\x00\x04" + "\x01" +
				"\x01b" + "\x02" + "\x02\x00\xff",
		},
		{
			api.Message{Kind: api.MUnsub, Tree: id(0, 0), ID: id(3, 4)},
			"\x04" + "\x00\x00\x00\x00\x00\x00\x00\x00" + "\x00\x00\x00\x00\x00\x00\x00\x00" +
				"\x00\x00\x00\x00\x00\x00\x00\x03" + "\x00\x00\x00\x00\x00\x00\x00\x04",
		},
		{
			api.Message{Kind: api.MPub, Tree: id(1, 2), ID: id(3, math.MaxInt), Attrs: attrs(number("a", -2), word("bc", "xy"), word("d", ""))},
			"\x05" + "\x00\x00\x00\x00\x00\x00\x00\x01" + "\x00\x00\x00\x00\x00\x00\x00\x02" +
				"\x00\x00\x00\x00\x00\x00\x00\x03" + "\x7f\xff\xff\xff\xff\xff\xff\xff" + "\x03" +
				"\x01a" + "\x00" + "\xff\xff\xff\xff\xff\xff\xff\xfe" +
				"\x02bc" + "\x01" + "\x02xy" +
				"\x01d" + "\x01" + "\x00",
		},
	} {
		b, err := wire.Encode(q.m)
		if err != nil || string(b) != q.want {
			t.Errorf("%v: %q, %v; want %q", q.m, b, err, q.want)
		}
		if string(written(q.m)) != q.want {
			t.Errorf("the test's own bytes of %v: %q", q.m, written(q.m))
		}
		if m, err := wire.Decode([]byte(q.want)); err != nil || !equal(m, q.m) {
			t.Errorf("%q: %v, %v", q.want, m, err)
		}
	}
}

func TestEncodeOfAll(t *testing.T) {
	for _, m := range messages() {
		if b, err := wire.Encode(m); err != nil || !bytes.Equal(b, written(m)) {
			t.Errorf("%v: %q, %v", m, b, err)
		}
	}
}

func TestEncodeRefusesWrongOnes(t *testing.T) {
	for _, m := range append(wrong(), api.Message{}) {
		b, err := wire.Encode(m)
		if len(b) != 0 {
			t.Errorf("%v: %q", m, b)
		}
		faulty(t, err, 0)
		if err != nil && err.Error() != "wire 0: form" {
			t.Errorf("%v: %v", m, err)
		}
	}
}

// P8.3, P8.4

func TestDecodeWhatIsEncoded(t *testing.T) {
	for _, m := range messages() {
		b, err := wire.Encode(m)
		if err != nil {
			t.Errorf("%v: %v", m, err)
			continue
		}
		got, err := wire.Decode(b)
		if err != nil || !equal(got, m) || !wire.Same(got, m) || !wire.Right(got) {
			t.Errorf("%v: %v, %v", m, got, err)
		}
	}
}

// judged asks that b is refused, or is just what is made of a right message.
func judged(t *testing.T, b []byte) bool {
	t.Helper()
	m, err := wire.Decode(b)
	if err != nil {
		refused(t, b)
		return false
	}
	again, err := wire.Encode(m)
	if err != nil || !wire.Right(m) || !bytes.Equal(again, b) || !bytes.Equal(written(m), b) {
		t.Errorf("%q is %v, and that %q, %v", b, m, again, err)
	}
	return true
}

// Bytes put together of a wrong message may be those of a right one: what isn't
// asked doesn't come into them.
func TestDecodeOfWrongOnes(t *testing.T) {
	for _, m := range wrong() {
		judged(t, written(m))
	}
}

func TestDecodeRefuses(t *testing.T) {
	adv := "\x01" + strings.Repeat("\x00", 16)
	sub := "\x03" + strings.Repeat("\x00", 32)
	pub := "\x05" + strings.Repeat("\x00", 32)
	for _, s := range []string{
		"", "\x00", "\x01", "\x02", "\x05", "\x06", "\x09", "\xff", adv, sub, pub,
		// kinds that are none
		"\x00" + strings.Repeat("\x00", 16), "\x00" + strings.Repeat("\x00", 32), "\x06" + strings.Repeat("\x00", 16), "\x06" + strings.Repeat("\x00", 32), "\xff" + strings.Repeat("\x00", 32),
		// IDs that are none
		"\x02" + eight(32) + eight(0), "\x02" + eight(-1) + eight(0), "\x02" + eight(0) + eight(-1), "\x02" + eight(1<<32) + eight(0), "\x02" + eight(0) + eight(math.MinInt),
		"\x04" + eight(0) + eight(0) + eight(32) + eight(0), "\x04" + eight(0) + eight(0) + eight(0) + eight(-1), "\x04" + eight(-1) + eight(0) + eight(0) + eight(0),
		// counts of more than there are, or than may be
		adv + "\x01", adv + "\x05", adv + "\x06", adv + "\xff", sub + "\x01", pub + "\x01", pub + "\xff",
		adv + "\x06" + "\x01a\x02\x00" + "\x01b\x02\x00" + "\x01c\x02\x00" + "\x01d\x02\x00" + "\x01e\x02\x00" + "\x01f\x02\x00",
		pub + "\x06" + "\x01a\x01\x00" + "\x01b\x01\x00" + "\x01c\x01\x00" + "\x01d\x01\x00" + "\x01e\x01\x00" + "\x01f\x01\x00",
		// fewer than there are
		adv + "\x00" + "\x01a\x02\x00", adv + "\x01" + "\x01a\x02\x00" + "\x01b\x02\x00", pub + "\x00" + "\x01a\x01\x00",
		// constraints of kinds that are none
		adv + "\x01" + "\x01a\x00", adv + "\x01" + "\x01a\x04", adv + "\x01" + "\x01a\x04\x00", adv + "\x01" + "\x01a\x00\x00", adv + "\x01" + "\x01a\xff" + eight(1) + eight(2),
		// constraints that aren't right
		adv + "\x01" + "\x01a\x01" + eight(2) + eight(1), adv + "\x01" + "\x01A\x02\x00", adv + "\x01" + "\x00\x02\x00", adv + "\x01" + told(longName+"m") + "\x02\x00",
		adv + "\x01" + "\x01a\x02" + told(longText+"x"), adv + "\x01" + "\x01a\x03" + told(longText), adv + "\x02" + "\x01b\x02\x00" + "\x01a\x02\x00", adv + "\x02" + "\x01a\x02\x00" + "\x01a\x02\x00",
		// values that are neither number nor text
		pub + "\x01" + "\x01a\x02", pub + "\x01" + "\x01a\x02\x00", pub + "\x01" + "\x01a\x02" + eight(0), pub + "\x01" + "\x01a\xff" + eight(0), pub + "\x01" + "\x01a\xff\x01x", pub + "\x01" + "\x01a\x80",
		// values that aren't right
		pub + "\x01" + "\x01a\x01" + told(longText+"x"), pub + "\x01" + "\x01A\x01\x00", pub + "\x01" + "\x00\x01\x00", pub + "\x01" + told(longName+"m") + "\x01\x00", pub + "\x02" + "\x01b\x01\x00" + "\x01a\x01\x00", pub + "\x02" + "\x01a\x01\x00" + "\x01a\x01\x00",
	} {
		refused(t, []byte(s))
	}
	refused(t, nil)
	_, err := wire.Decode([]byte{9})
	if err == nil || err.Error() != "wire 1: form" {
		t.Error(err)
	}
}

// some is a few messages of each kind, of few and of many bytes.
func some() []api.Message {
	var l []api.Message
	for _, k := range kinds() {
		for _, p := range ones(k.pred, [][]api.Constraint{nil, list(span("a", math.MinInt, 5), text("b", "xyz"), prefix("c", "x")), fullPred()}) {
			for _, a := range ones(k.pub, [][]api.Attr{nil, attrs(number("a", -1), word("b", "x\x00")), fullPub()}) {
				for _, x := range ones(k.id, []api.ID{id(3, 1<<40)}) {
					l = append(l, api.Message{Kind: k.kind, Tree: id(1, 2), ID: x, Pred: p, Attrs: a})
				}
			}
		}
	}
	return l
}

// What breaks off is none, though the rest stand in the room behind it (R5).
func TestDecodeRefusesWhatBreaksOff(t *testing.T) {
	for _, m := range some() {
		b := written(m)
		for n := range b {
			refused(t, b[:n])
			refused(t, b[:n:n])
		}
	}
}

func TestDecodeRefusesWhatHasMore(t *testing.T) {
	for _, m := range some() {
		for _, size := range []int{1, 2, 8, 16, api.MaxBytes - len(written(m)), api.MaxBytes, 1 << 20} {
			for _, low := range []byte{0, 1, 255} {
				refused(t, append(written(m), bytes.Repeat([]byte{low}, size)...))
			}
		}
		refused(t, append(written(m), written(m)...))
	}
}

// Each byte of a message made each other one: some of these are messages, too.
func TestDecodeOfChangedBytes(t *testing.T) {
	good := 0
	for _, m := range some() {
		b := written(m)
		for i, was := range b {
			for low := range 256 {
				b[i] = byte(low)
				if judged(t, b) {
					good++
					if got, _ := wire.Decode(b); equal(got, m) != (b[i] == was) {
						t.Errorf("%q is %v", b, got)
					}
				}
			}
			b[i] = was
		}
	}
	if good == 0 {
		t.Error("none is a message")
	}
}

// A byte left out, or put in, anywhere.
func TestDecodeOfShiftedBytes(t *testing.T) {
	for _, m := range some() {
		b := written(m)
		for i := range b {
			judged(t, slices.Delete(slices.Clone(b), i, i+1))
			for _, low := range []byte{0, 1, 2, 3, 'a', 255} {
				judged(t, slices.Insert(slices.Clone(b), i, low))
			}
		}
	}
}

// All lists of up to five of a few bytes behind what a kind begins with.
func TestDecodeOfShortLists(t *testing.T) {
	for _, k := range kinds() {
		b := written(api.Message{Kind: k.kind})
		if k.pred || k.pub {
			b = b[:len(b)-1]
		}
		of := []byte{0, 1, 2, 3, 'a', 'b', 255}
		lists := [][]byte{b}
		good := 0
		for from := 0; from < len(lists); from++ {
			if judged(t, lists[from]) {
				good++
			}
			if len(lists[from]) == len(b)+5 {
				continue
			}
			for _, low := range of {
				lists = append(lists, append(slices.Clone(lists[from]), low))
			}
		}
		// Such as ask nothing more are messages as they are; else no list, or one
		// of a text "", or one byte; of a predicate as a text and as a prefix.
		want := 1
		if k.pred {
			want = 1 + 2*2
		}
		if k.pub {
			want = 1 + 2
		}
		if good != want {
			t.Error(k.kind, good, "messages, want", want)
		}
	}
}

func TestNoMessageIsLonger(t *testing.T) {
	longest := map[int]int{}
	for _, m := range messages() {
		b, err := wire.Encode(m)
		if err != nil || len(b) > api.MaxBytes {
			t.Errorf("%v: %d bytes, %v", m, len(b), err)
		}
		longest[m.Kind] = max(longest[m.Kind], len(b))
	}
	for _, q := range [][2]int{{api.MAdv, 168}, {api.MUnadv, 17}, {api.MSub, 184}, {api.MUnsub, 33}, {api.MPub, 169}} {
		if longest[q[0]] != q[1] {
			t.Error(q[0], longest[q[0]], "bytes")
		}
	}
	for size := range 2 * api.MaxBytes {
		for low := range 7 {
			refused(t, bytes.Repeat([]byte{byte(low)}, size))
		}
	}
}

// The chapter's run.
func TestRuns(t *testing.T) {
	b, err := wire.Encode(api.Message{Kind: api.MUnadv, Tree: id(1, 2)})
	if err != nil || !bytes.Equal(b, []byte{2, 0, 0, 0, 0, 0, 0, 0, 1, 0, 0, 0, 0, 0, 0, 0, 2}) {
		t.Error(b, err)
	}
}

// R2: what is handed in isn't changed, its spare room included, and not kept.
func TestWhatIsHandedInStays(t *testing.T) {
	p := append(fullPred(), text("x", "y"), span("z", 1, 2))
	a := append(fullPub(), word("x", "y"), number("z", 1))
	wasP, wasA := slices.Clone(p), slices.Clone(a)
	for n := range 6 {
		sub := api.Message{Kind: api.MSub, Pred: p[:n]}
		pub := api.Message{Kind: api.MPub, Attrs: a[:n]}
		for _, m := range []api.Message{sub, pub} {
			if !wire.Right(m) || !wire.Same(m, m) {
				t.Error(n, m)
			}
			b, err := wire.Encode(m)
			was := slices.Clone(b)
			got, _ := wire.Decode(b)
			if err != nil || !bytes.Equal(b, was) || !slices.Equal(p, wasP) || !slices.Equal(a, wasA) {
				t.Error(n, "changed")
			}
			for i := range b {
				b[i] = 99
			}
			if !equal(got, m) {
				t.Error(n, "kept:", got)
			}
		}
	}
}

// R2: an answer is new memory, its spare room too.
func TestAnswersAreNew(t *testing.T) {
	for _, m := range some() {
		was := written(m)
		one, _ := wire.Encode(m)
		other, _ := wire.Encode(m)
		one = one[:cap(one)]
		for i := range one {
			one[i] = 99
		}
		if again, _ := wire.Encode(m); !bytes.Equal(other, was) || !bytes.Equal(again, was) {
			t.Errorf("%v: bytes are shared", m)
		}
		b := slices.Clone(was)
		first, _ := wire.Decode(b)
		second, _ := wire.Decode(b)
		p, a := first.Pred[:cap(first.Pred)], first.Attrs[:cap(first.Attrs)]
		for i := range p {
			p[i] = text("changed", "changed")
		}
		for i := range a {
			a[i] = word("changed", "changed")
		}
		if third, _ := wire.Decode(b); !equal(second, m) || !equal(third, m) || !bytes.Equal(b, was) {
			t.Errorf("%v: lists are shared", m)
		}
	}
}

// R5: the room behind a list's length isn't read.
func TestSpareRoom(t *testing.T) {
	p, a := list(span("a", 1, 2), span("a", 2, 1))[:1], attrs(number("a", 1), number("A", 1))[:1]
	for _, m := range []api.Message{
		{Kind: api.MAdv, Pred: p, Attrs: a[:0]},
		{Kind: api.MPub, Pred: p[:0], Attrs: a},
		{Kind: api.MUnsub, Pred: p[:0], Attrs: a[:0]},
	} {
		b, err := wire.Encode(m)
		if err != nil || !wire.Right(m) || !bytes.Equal(b, written(m)) || !wire.Same(m, copied(m)) {
			t.Errorf("%v: %q, %v", m, b, err)
		}
	}
}

// R1: whatever is given, every call ends, and none panics.
func TestOfWhateverEnds(t *testing.T) {
	const long = 1 << 16
	p, a := make([]api.Constraint, long), make([]api.Attr, long)
	for i := range p {
		p[i], a[i] = span("a", -i, i), word("a", longText)
	}
	for n := -1; n < 8; n++ {
		m := api.Message{Kind: n, Pred: p, Attrs: a}
		if wire.Right(m) || !wire.Same(m, copied(m)) || wire.Same(m, api.Message{Kind: n, Pred: p[1:], Attrs: a}) || wire.Same(m, api.Message{Kind: n, Pred: p, Attrs: a[1:]}) {
			t.Error(n)
		}
		_, err := wire.Encode(m)
		faulty(t, err, 0)
	}
	for n := range 8 {
		refused(t, append([]byte{byte(n)}, make([]byte, 1<<20)...))
	}
	s := strings.Repeat("x", 1<<20)
	for _, m := range []api.Message{{Kind: api.MAdv, Pred: list(text(s, s))}, {Kind: api.MPub, Attrs: attrs(word("a", s))}, {Kind: api.MPub, Attrs: attrs(word(s, "a"))}} {
		_, err := wire.Encode(m)
		faulty(t, err, 0)
	}
}
