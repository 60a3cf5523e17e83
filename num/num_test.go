package num_test

import (
	"bytes"
	"math"
	"slices"
	"strings"
	"testing"

	"broadside/api"
	"broadside/num"
)

// numbers is some of all sizes: each power of two, what is beside it, and all
// of these below nought.
func numbers() []int {
	l := []int{math.MinInt, math.MaxInt, 0x0102030405060708, -0x0102030405060708, 0x7fee7fee7fee7fee}
	for bit := range 63 {
		for beside := -1; beside <= 1; beside++ {
			n := 1<<bit + beside
			l = append(l, n, -n)
		}
	}
	return l
}

// eight is n's bytes, reckoned from the lowest one on.
func eight(n int) []byte {
	b := make([]byte, 8)
	for i := 7; i >= 0; i-- {
		low := (n%256 + 256) % 256
		b[i], n = byte(low), (n-low)/256
	}
	return b
}

// P7.1

func TestNumber(t *testing.T) {
	for _, q := range []struct {
		n    int
		want []byte
	}{
		{0, []byte{0, 0, 0, 0, 0, 0, 0, 0}},
		{1, []byte{0, 0, 0, 0, 0, 0, 0, 1}},
		{127, []byte{0, 0, 0, 0, 0, 0, 0, 127}},
		{128, []byte{0, 0, 0, 0, 0, 0, 0, 128}},
		{255, []byte{0, 0, 0, 0, 0, 0, 0, 255}},
		{256, []byte{0, 0, 0, 0, 0, 0, 1, 0}},
		{1 << 31, []byte{0, 0, 0, 0, 128, 0, 0, 0}},
		{1 << 32, []byte{0, 0, 0, 1, 0, 0, 0, 0}},
		{0x0102030405060708, []byte{1, 2, 3, 4, 5, 6, 7, 8}},
		{math.MaxInt64, []byte{127, 255, 255, 255, 255, 255, 255, 255}},
		{-1, []byte{255, 255, 255, 255, 255, 255, 255, 255}},
		{-2, []byte{255, 255, 255, 255, 255, 255, 255, 254}},
		{-256, []byte{255, 255, 255, 255, 255, 255, 255, 0}},
		{-257, []byte{255, 255, 255, 255, 255, 255, 254, 255}},
		{math.MinInt64 + 1, []byte{128, 0, 0, 0, 0, 0, 0, 1}},
		{math.MinInt64, []byte{128, 0, 0, 0, 0, 0, 0, 0}},
	} {
		if got := num.Number(q.n); !bytes.Equal(got, q.want) {
			t.Errorf("Number(%d) = %v, want %v", q.n, got, q.want)
		}
	}
}

func TestNumberOfAllSizes(t *testing.T) {
	for _, n := range numbers() {
		if got := num.Number(n); !bytes.Equal(got, eight(n)) {
			t.Errorf("Number(%d) = %v, want %v", n, got, eight(n))
		}
	}
}

func TestNumberOfSeveral(t *testing.T) {
	if got := num.Number(); len(got) != 0 {
		t.Error("of none", got)
	}
	if got := num.Number([]int{}...); len(got) != 0 {
		t.Error("of an empty list", got)
	}
	want := []byte{0, 0, 0, 0, 0, 0, 0, 1, 255, 255, 255, 255, 255, 255, 255, 255, 0, 0, 0, 0, 0, 0, 1, 2}
	if got := num.Number(1, -1, 258); !bytes.Equal(got, want) {
		t.Error(got)
	}
	var all []byte
	for _, n := range numbers() {
		all = append(all, num.Number(n)...)
	}
	if !bytes.Equal(num.Number(numbers()...), all) {
		t.Error("of many: not one behind the other")
	}
}

func TestID(t *testing.T) {
	if got := num.ID(api.ID{}); !bytes.Equal(got, make([]byte, 16)) {
		t.Error(got)
	}
	want := []byte{0, 0, 0, 0, 0, 0, 0, 1, 0, 0, 0, 0, 0, 0, 0, 2}
	if got := num.ID(api.ID{Client: 1, Seq: 2}); !bytes.Equal(got, want) {
		t.Error(got)
	}
	// What is no ID of any client has its bytes, too.
	for _, client := range []int{math.MinInt, -1, 0, api.MaxClients, math.MaxInt} {
		for _, seq := range []int{math.MinInt, -1, 0, 3, math.MaxInt} {
			x := api.ID{Client: client, Seq: seq}
			if got := num.ID(x); !bytes.Equal(got, num.Number(client, seq)) {
				t.Error(x, got)
			}
		}
	}
}

// P7.2

func TestText(t *testing.T) {
	for _, q := range []struct {
		s    string
		want []byte
	}{
		{"", []byte{0}},
		{"a", []byte{1, 97}},
		{"ab", []byte{2, 97, 98}},
		{"\x00", []byte{1, 0}},
		{"\x00\x00a", []byte{3, 0, 0, 97}},
		{"\xff\xfe", []byte{2, 255, 254}},
		{"\"\\\n", []byte{3, 34, 92, 10}},
		{"é", []byte{2, 195, 169}}, // bytes are told, not runes
		{"\xe2\x82", []byte{2, 226, 130}},
	} {
		if got := num.Text(q.s); !bytes.Equal(got, q.want) {
			t.Errorf("Text(%q) = %v, want %v", q.s, got, q.want)
		}
	}
}

func TestTextOfEachLength(t *testing.T) {
	for n := range 256 {
		s := strings.Repeat("\xc3\xa9x", n)[:n]
		got := num.Text(s)
		if len(got) != n+1 || int(got[0]) != n || string(got[1:]) != s {
			t.Error(n, got)
		}
	}
}

func TestTextThatIsTooLong(t *testing.T) {
	for _, n := range []int{256, 257, 259, 511, 512, 768, 1 << 16, 1<<16 + 3, 1 << 20} {
		if got := num.Text(strings.Repeat("a", n)); len(got) != 0 {
			t.Error(n, len(got))
		}
	}
}

// P7.3

// A thing is what can be put into bytes, and asked of a Reader.
type thing struct {
	name  string
	b     []byte
	asked func(r *num.Reader) any
	is    any
	zero  any
}

func aByte(n byte) thing {
	return thing{"byte", []byte{n}, func(r *num.Reader) any { return r.Byte() }, n, byte(0)}
}

func aNumber(n int) thing {
	return thing{"number", num.Number(n), func(r *num.Reader) any { return r.Number() }, n, 0}
}

func aText(s string) thing {
	return thing{"text", num.Text(s), func(r *num.Reader) any { return r.Text() }, s, ""}
}

func anID(client, seq int) thing {
	x := api.ID{Client: client, Seq: seq}
	return thing{"ID", num.ID(x), func(r *num.Reader) any { return r.ID() }, x, api.ID{}}
}

// things is one or more of each kind.
func things() []thing {
	return []thing{aByte(0), aByte(255), aNumber(-5), aNumber(1 << 40), aText(""), aText("hey\x00\xff"), anID(3, -9)}
}

// lists is all lists of up to that many things.
func lists(most int) [][]thing {
	all := [][]thing{nil}
	for from := 0; from < len(all); from++ {
		if len(all[from]) == most {
			continue
		}
		for _, q := range things() {
			all = append(all, append(slices.Clone(all[from]), q))
		}
	}
	return all
}

// together is the bytes of a list, one thing behind the other.
func together(l []thing) []byte {
	var b []byte
	for _, q := range l {
		b = append(b, q.b...)
	}
	return b
}

// reads asks a Reader of b for the things of l, in turn. As far as they are
// there they must come, and zeros from the first on that isn't there whole.
func reads(t *testing.T, b []byte, l []thing) {
	t.Helper()
	r := num.Read(b)
	left, good := len(b), true
	for i, q := range l {
		good = good && left >= len(q.b)
		want := q.zero
		if good {
			want, left = q.is, left-len(q.b)
		}
		if got := q.asked(r); got != want {
			t.Errorf("%v: %d, a %s: %v, want %v", b, i, q.name, got, want)
		}
		for range 2 { // asked twice it says the same
			if r.Good() != good || r.Done() != (good && left == 0) {
				t.Errorf("%v: behind %d, a %s: Good is %v, Done is %v", b, i, q.name, r.Good(), r.Done())
			}
		}
	}
}

func TestReadWhatWasPut(t *testing.T) {
	for _, l := range lists(3) {
		reads(t, together(l), l)
	}
}

func TestReadWithSomethingLeft(t *testing.T) {
	for _, l := range lists(2) {
		for _, more := range [][]byte{{0}, {255}, {0, 0, 0, 0, 0, 0, 0, 0, 0, 0, 0}} {
			reads(t, append(together(l), more...), l)
		}
	}
}

func TestReadWhatBreaksOff(t *testing.T) {
	for _, l := range lists(3) {
		b := together(l)
		for n := range len(b) {
			reads(t, b[:n:n], l)
		}
	}
}

// Whatever is asked first and isn't there, all is zero from then on, though
// there are bytes that would do for something smaller.
func TestReadNothingBehindWhatIsNotThere(t *testing.T) {
	for _, first := range []thing{aNumber(0), aText("12345"), anID(0, 0)} {
		r := num.Read([]byte{5, 1, 2, 3, 4})
		if got := first.asked(r); got != first.zero || r.Good() || r.Done() {
			t.Error(first.name, got, r.Good(), r.Done())
		}
		for range 3 {
			for _, q := range things() {
				if got := q.asked(r); got != q.zero || r.Good() || r.Done() {
					t.Error(first.name, q.name, got, r.Good(), r.Done())
				}
			}
		}
	}
	r := num.Read([]byte{1})
	if r.Byte() != 1 || r.Byte() != 0 || r.Good() || r.Done() {
		t.Error("a byte that isn't there")
	}
}

func TestReadHalfAnID(t *testing.T) {
	b := num.ID(api.ID{Client: 7, Seq: 8})
	for n := range b {
		r := num.Read(b[:n])
		if got := r.ID(); got != (api.ID{}) || r.Good() || r.Done() {
			t.Error(n, got)
		}
		if r.Number() != 0 || r.Byte() != 0 || r.Good() {
			t.Error(n, "more is read")
		}
	}
}

func TestReadOfNothing(t *testing.T) {
	for _, b := range [][]byte{nil, {}} {
		if r := num.Read(b); !r.Good() || !r.Done() || !r.Good() {
			t.Error("nothing was asked, nothing is left")
		}
		for _, q := range things() {
			r := num.Read(b)
			if got := q.asked(r); got != q.zero || r.Good() || r.Done() {
				t.Error(q.name, got)
			}
		}
	}
	if r := num.Read([]byte{0}); !r.Good() || r.Done() || r.Text() != "" || !r.Good() || !r.Done() {
		t.Error("an empty text is one")
	}
	if r := num.Read(make([]byte, 24)); r.Number() != 0 || r.ID() != (api.ID{}) || !r.Good() || !r.Done() {
		t.Error("noughts are a number and an ID")
	}
}

func TestReadNumbersOfAllSizes(t *testing.T) {
	r := num.Read(num.Number(numbers()...))
	for _, n := range numbers() {
		if got := r.Number(); got != n || !r.Good() {
			t.Error(n, got)
		}
	}
	if !r.Done() {
		t.Error("something is left")
	}
	for _, n := range numbers() {
		x := api.ID{Client: n, Seq: -n}
		r := num.Read(num.ID(x))
		if got := r.ID(); got != x || !r.Done() {
			t.Error(x, got)
		}
	}
}

func TestReadTextsOfEachLength(t *testing.T) {
	for n := range 256 {
		s := strings.Repeat("\xff\x00x", n)[:n]
		b := append(num.Text(s), 7)
		r := num.Read(b)
		if got := r.Text(); got != s || !r.Good() || r.Done() || r.Byte() != 7 || !r.Done() {
			t.Errorf("%d: %q", n, got)
		}
		if n == 0 {
			continue
		}
		r = num.Read(b[:n])
		if got := r.Text(); got != "" || r.Good() || r.Done() {
			t.Errorf("%d, and one too few: %q", n, got)
		}
	}
}

// Bytes are bytes: the same ones may be asked as this or as that.
func TestReadAsAsked(t *testing.T) {
	b := num.Number(3, 257)
	r := num.Read(b)
	for _, want := range b {
		if r.Byte() != want {
			t.Error("bytes")
		}
	}
	if !r.Done() {
		t.Error("bytes left")
	}
	r = num.Read(b)
	for range 7 {
		if r.Text() != "" {
			t.Error("an empty text")
		}
	}
	if got := r.Text(); got != "\x00\x00\x00" || r.Text() != "" || r.Text() != "" || r.Text() != "" || !r.Good() {
		t.Errorf("%q", got)
	}
	if got := r.Text(); got != "\x01" || !r.Done() {
		t.Errorf("%q", got)
	}
}

// The chapter's runs.
func TestRuns(t *testing.T) {
	if got := num.Number(1); !bytes.Equal(got, []byte{0, 0, 0, 0, 0, 0, 0, 1}) {
		t.Error(got)
	}
	if got := num.Text("ab"); !bytes.Equal(got, []byte{2, 97, 98}) {
		t.Error(got)
	}
	r := num.Read([]byte{2, 97})
	if got := r.Text(); got != "" || r.Good() {
		t.Errorf("%q, %v", got, r.Good())
	}
}

// R2: what is handed in is neither changed nor kept.
func TestWhatIsHandedInStays(t *testing.T) {
	b := together(things())
	was := slices.Clone(b)
	r, other := num.Read(b), num.Read(b)
	for _, q := range things() {
		q.asked(r)
	}
	if !bytes.Equal(b, was) || !r.Done() {
		t.Error("changed by reading")
	}
	for i := range b {
		b[i] = 99
	}
	for _, q := range things() {
		if got := q.asked(other); got != q.is {
			t.Error("kept:", q.name, got)
		}
	}
	if !other.Done() {
		t.Error("kept: something is left")
	}
	ns := []int{3, -1, 7, 8}
	num.Number(ns[:2]...)
	if !slices.Equal(ns, []int{3, -1, 7, 8}) {
		t.Error(ns)
	}
}

// A Reader doesn't move another one of the same bytes on.
func TestReadersAreApart(t *testing.T) {
	b := []byte{1, 2, 3}
	one, two := num.Read(b), num.Read(b)
	if one.Byte() != 1 || one.Byte() != 2 || two.Byte() != 1 || one.Number() != 0 || one.Good() || !two.Good() || two.Byte() != 2 || two.Byte() != 3 || !two.Done() {
		t.Error("one moves the other")
	}
}

// R5: the room behind a list's length isn't read.
func TestSpareRoom(t *testing.T) {
	room := []byte{2, 97, 98, 0, 0, 0, 0, 0, 0, 0, 0, 0, 0, 0, 0, 0, 0}
	r := num.Read(room[:2])
	if r.Text() != "" || r.Good() {
		t.Error("a text")
	}
	r = num.Read(room[3:9])
	if r.Number() != 0 || r.Good() {
		t.Error("a number")
	}
	r = num.Read(room[:0])
	if !r.Done() || r.Byte() != 0 || r.Good() {
		t.Error("a byte")
	}
	if got := num.Number([]int{1, 2, 3}[:1]...); !bytes.Equal(got, num.Number(1)) {
		t.Error(got)
	}
}

// R2: an answer is new memory, its spare room too.
func TestAnswersAreNew(t *testing.T) {
	for i, f := range []func() []byte{
		func() []byte { return num.Number() },
		func() []byte { return num.Number(1, 2) },
		func() []byte { return num.Text("") },
		func() []byte { return num.Text("ab") },
		func() []byte { return num.Text(strings.Repeat("a", 300)) },
		func() []byte { return num.ID(api.ID{Client: 1, Seq: 2}) },
	} {
		one, two := f(), f()
		was := slices.Clone(two)
		one = one[:cap(one)]
		for j := range one {
			one[j] = 99
		}
		if !bytes.Equal(two, was) || !bytes.Equal(f(), was) {
			t.Error(i)
		}
	}
}

// R1: whatever is given, every call ends, and none panics.
func TestOfWhateverEnds(t *testing.T) {
	for size := range 20 {
		for low := range 256 {
			b := bytes.Repeat([]byte{byte(low)}, size)
			for _, q := range things() {
				r := num.Read(b)
				steps := 0
				for ; r.Good() && steps <= size; steps++ {
					q.asked(r)
				}
				if r.Good() || r.Done() {
					t.Error(size, low, q.name, steps)
				}
			}
		}
	}
}

func TestLong(t *testing.T) {
	const long = 1 << 16
	ns := make([]int, long)
	for i := range ns {
		ns[i] = i - long/2
	}
	b := num.Number(ns...)
	if len(b) != 8*long {
		t.Fatal(len(b))
	}
	r := num.Read(b)
	for _, n := range ns {
		if r.Number() != n {
			t.Fatal(n)
		}
	}
	if !r.Done() {
		t.Error("something is left")
	}
	r = num.Read(b)
	for range b {
		r.Byte()
	}
	if !r.Done() || r.Byte() != 0 || r.Good() {
		t.Error("byte by byte")
	}
}
