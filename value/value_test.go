package value_test

import (
	"math"
	"strings"
	"testing"

	"broadside/api"
	"broadside/value"
)

// rising is right values, each Less than the next one.
func rising() []api.Value {
	n, s := value.Number, value.Text
	return []api.Value{
		n(math.MinInt64), n(math.MinInt64 + 1), n(-10), n(-9), n(-1), n(0), n(1), n(9), n(10), n(math.MaxInt64 - 1), n(math.MaxInt64),
		s(""), s("\x00"), s("\x00\x00"), s("\n"), s("\""), s("\"\""), s("-1"), s("0"), s("10"), s("9"),
		s("A"), s("B"), s("\\"), s("\\\""), s("\\\\"), s("\\n"), s("a"), s("a\x00"), s("a\""), s("a\\"), s("aa"),
		s("abcdefghijk"), s("abcdefghijkl"), s("abcdefghijkm"), s("b"), s("\x7f"), s("\x80"), s("\xc3"), s("\xc3\xa9"), s("\xef\xbf\xbd"), s("\xff"), s("\xff\xff"),
	}
}

// wrong is values that are not right.
func wrong() []api.Value {
	return []api.Value{
		{Text: "a"},
		{Text: "\x00"},
		{N: 3, Text: "x"},
		{N: -1, Text: "abcdefghijklm"},
		{IsText: true, N: 1},
		{IsText: true, N: -1, Text: "a"},
		{IsText: true, N: math.MinInt64, Text: "abcdefghijkl"},
		{IsText: true, Text: "abcdefghijklm"},
		{IsText: true, Text: strings.Repeat("\x00", 13)},
		{IsText: true, Text: strings.Repeat("\xc3\xa9", 7)},
		{IsText: true, Text: strings.Repeat("a", 1<<16)},
	}
}

// P2.1

func TestRight(t *testing.T) {
	for _, v := range append(rising(), api.Value{}, api.Value{IsText: true}) {
		if !value.Right(v) {
			t.Errorf("%#v isn't right", v)
		}
	}
	for _, v := range wrong() {
		if value.Right(v) {
			t.Errorf("%#v is right", v)
		}
	}
}

func TestRightCountsBytes(t *testing.T) {
	for n := range 3 * api.MaxName {
		for _, letter := range []string{"a", "\x00", "\xff", "\"", "\\"} {
			if v := value.Text(strings.Repeat(letter, n)); value.Right(v) != (n <= 12) {
				t.Errorf("a text of %d bytes %q", n, letter)
			}
		}
		if v := value.Text(strings.Repeat("é", n)); value.Right(v) != (n <= 6) {
			t.Errorf("a text of %d runes of two bytes", n)
		}
	}
}

func TestNumberAndTextAreTheseValues(t *testing.T) {
	for _, n := range []int{math.MinInt64, -1, 0, 1, 9, math.MaxInt64} {
		if v := value.Number(n); v != (api.Value{N: n}) {
			t.Errorf("Number(%d) = %#v", n, v)
		}
	}
	for _, s := range []string{"", "a", "5", "\x00", "\xff", "a\"b", "abcdefghijkl", "abcdefghijklm", strings.Repeat("x", 1000)} {
		if v := value.Text(s); v != (api.Value{IsText: true, Text: s}) {
			t.Errorf("Text(%q) = %#v", s, v)
		}
	}
}

// P2.2

func TestLess(t *testing.T) {
	row := rising()
	for i, a := range row {
		for k, b := range row {
			if value.Less(a, b) != (i < k) {
				t.Errorf("Less(%#v, %#v) = %v", a, b, i >= k)
			}
		}
	}
	if !value.Less(value.Number(9), value.Text("a")) {
		t.Error("the chapter's run")
	}
}

func TestLessOfLongTexts(t *testing.T) {
	long := strings.Repeat("a", 1<<16)
	a, b := value.Text(long+"a"), value.Text(long+"b")
	if !value.Less(a, b) || value.Less(b, a) || value.Less(a, a) || !value.Less(value.Text(long), a) {
		t.Error("long texts")
	}
}

// What doesn't belong to a value's kind says nothing of its size.
func TestLessOfWrongValues(t *testing.T) {
	for _, q := range []struct {
		a, b api.Value
		want bool
	}{
		{api.Value{N: 1, Text: "z"}, api.Value{N: 2, Text: "a"}, true},
		{api.Value{N: 2, Text: "a"}, api.Value{N: 1, Text: "z"}, false},
		{api.Value{N: 1, Text: "a"}, api.Value{N: 1, Text: "b"}, false},
		{api.Value{IsText: true, N: 2, Text: "a"}, api.Value{IsText: true, N: 1, Text: "b"}, true},
		{api.Value{IsText: true, N: 1, Text: "b"}, api.Value{IsText: true, N: 2, Text: "a"}, false},
		{api.Value{IsText: true, N: 1, Text: "a"}, api.Value{IsText: true, N: 2, Text: "a"}, false},
		{api.Value{N: 9, Text: "z"}, api.Value{IsText: true, N: 1, Text: "a"}, true},
		{api.Value{IsText: true, N: 1, Text: "a"}, api.Value{N: 9, Text: "z"}, false},
	} {
		if value.Less(q.a, q.b) != q.want {
			t.Errorf("Less(%#v, %#v) = %v", q.a, q.b, !q.want)
		}
	}
}

// P2.3

func TestSay(t *testing.T) {
	for _, q := range []struct {
		v    api.Value
		want string
	}{
		{value.Number(0), `0`},
		{value.Number(7), `7`},
		{value.Number(-12), `-12`},
		{value.Number(1000000), `1000000`},
		{value.Number(math.MaxInt64), `9223372036854775807`},
		{value.Number(math.MinInt64), `-9223372036854775808`},
		{value.Text(``), `""`},
		{value.Text(`a`), `"a"`},
		{value.Text(`5`), `"5"`},
		{value.Text(`-12`), `"-12"`},
		{value.Text(`a"b`), `"a\"b"`},
		{value.Text(`"`), `"\""`},
		{value.Text(`\`), `"\\"`},
		{value.Text(`\"`), `"\\\""`},
		{value.Text(`"\`), `"\"\\"`},
		{value.Text(`\n`), `"\\n"`},
		{value.Text(`'`), `"'"`},
		{value.Text("a\nb\t\x00\x7f"), "\"a\nb\t\x00\x7f\""},
		{value.Text("\xff\xc3"), "\"\xff\xc3\""},
		{value.Text("é\u2028"), "\"é\u2028\""},
	} {
		if got := value.Say(q.v); got != q.want {
			t.Errorf("Say(%#v) = %q, want %q", q.v, got, q.want)
		}
	}
}

func TestSayKeepsEachByte(t *testing.T) {
	for b := range 256 {
		one := string([]byte{byte(b)})
		want := one
		if one == `"` || one == `\` {
			want = `\` + one
		}
		if got := value.Say(value.Text("a" + one + "b")); got != `"a`+want+`b"` {
			t.Errorf("byte %d: %q", b, got)
		}
	}
}

func TestSayTellsRightValuesApart(t *testing.T) {
	row := rising()
	for i, a := range row {
		for k, b := range row {
			if (value.Say(a) == value.Say(b)) != (i == k) {
				t.Errorf("Say(%#v) and Say(%#v)", a, b)
			}
		}
	}
}

// All texts of up to four of the letters that quoting could mix up.
func TestSayTellsQuotedTextsApart(t *testing.T) {
	texts := []string{""}
	for from := 0; len(texts[from]) < 4; from++ {
		for _, letter := range []string{`"`, `\`, `a`, `,`} {
			texts = append(texts, texts[from]+letter)
		}
	}
	said := map[string]string{}
	for _, s := range texts {
		told := value.Say(value.Text(s))
		if other, twice := said[told]; twice {
			t.Errorf("%q and %q say %q", s, other, told)
		}
		said[told] = s
	}
	if len(said) != 1+4+16+64+256 {
		t.Error(len(said), "texts")
	}
}

// R1: whatever is given, every call ends, and none panics.

func TestWrongValuesAreTold(t *testing.T) {
	for _, q := range []struct {
		v    api.Value
		want string
	}{
		{api.Value{N: 3, Text: `x`}, `3`},
		{api.Value{IsText: true, N: 1, Text: `x`}, `"x"`},
		{api.Value{IsText: true, Text: `abcdefghijklm`}, `"abcdefghijklm"`},
	} {
		if got := value.Say(q.v); got != q.want {
			t.Errorf("Say(%#v) = %q, want %q", q.v, got, q.want)
		}
	}
	if got := value.Say(value.Text(strings.Repeat(`"`, 1<<20))); got != `"`+strings.Repeat(`\"`, 1<<20)+`"` {
		t.Error("a long text:", len(got), "bytes")
	}
	for _, a := range wrong() {
		for _, b := range append(wrong(), rising()...) {
			if value.Less(a, b) && value.Less(b, a) {
				t.Errorf("%#v and %#v are ahead of each other", a, b)
			}
		}
	}
}
