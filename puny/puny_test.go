package puny_test

import (
	"errors"
	"fmt"
	"math"
	"math/big"
	"math/rand"
	"slices"
	"strings"
	"testing"

	"eponym/api"
	"eponym/puny"
)

// wantFault fails unless the error is just a Fault of that named error at that place.
func wantFault(t *testing.T, what string, e error, place int, named error) {
	t.Helper()
	if named == nil {
		if e != nil {
			t.Errorf("%s: %v, want no error", what, e)
		}
		return
	}
	var f *api.Fault
	if !errors.As(e, &f) {
		t.Errorf("%s: %v is no Fault", what, e)
		return
	}
	if f.At != place || !errors.Is(e, named) {
		t.Errorf("%s: %q at %d, want %q at %d", what, f.Err, f.At, named, place)
	}
}

// eachOf hands over all lists of at most so many of what is handed in.
func eachOf[T any](telling []T, most int, do func([]T)) {
	var grow func([]T)
	grow = func(l []T) {
		do(slices.Clone(l))
		if len(l) == most {
			return
		}
		for _, one := range telling {
			grow(append(slices.Clone(l), one))
		}
	}
	grow(nil)
}

// right tells whether a rune is right, by the language's own forms.
func right(r rune) bool {
	return r == 0xfffd || string(r) != "\ufffd"
}

const most = 1<<31 - 1

// written are the digits by their values.
const written = "abcdefghijklmnopqrstuvwxyz0123456789"

// adapted is the bias behind a number, by whole numbers of any size.
func adapted(d, many int64, first bool) int {
	n, m := big.NewInt(min(max(d, 0), most)), big.NewInt(min(max(many, 1), most))
	by := big.NewInt(2)
	if first {
		by.SetInt64(700)
	}
	n.Div(n, by)
	n.Add(n, new(big.Int).Div(n, m))
	times := 0
	for ; n.Cmp(big.NewInt(455)) > 0; times++ {
		n.Div(n, big.NewInt(35))
	}
	d = n.Int64()
	return 36*times + int(36*d/(d+38))
}

// bounds are the bounds of a number's digits, so many.
func bounds(bias, many int) (l []int) {
	for k := 1; len(l) < many; k++ {
		t := 36*k - bias
		if t < 1 {
			t = 1
		} else if t > 26 {
			t = 26
		}
		l = append(l, t)
	}
	return l
}

// worth is the number that digits tell by a bias, and whether just the last one is below its bound.
func worth(digits string, bias int) (*big.Int, bool) {
	sum, weight := new(big.Int), big.NewInt(1)
	ends := false
	for k, t := range bounds(bias, len(digits)) {
		value := strings.IndexByte(written, digits[k])
		if value < 0 || ends {
			return sum, false
		}
		sum.Add(sum, new(big.Int).Mul(weight, big.NewInt(int64(value))))
		weight.Mul(weight, big.NewInt(int64(36-t)))
		ends = value < t
	}
	return sum, ends
}

// number is how many places there are from one up to another, counted one by one.
func number(n, i, many int, toN, toI int) (d int) {
	for n != toN || i != toI {
		if i == many {
			n, i = n+1, 0
		} else {
			i++
		}
		d++
	}
	return d
}

// encoded is runes' Punycode by the chapter's words: runes are put in one by one, and places counted one by one.
func encoded(l []rune) string {
	var out strings.Builder
	there := make([]bool, len(l))
	many := 0
	for i, r := range l {
		if r < 0x80 {
			out.WriteByte(byte(r))
			there[i] = true
			many++
		}
	}
	if many > 0 {
		out.WriteByte('-')
	}
	n, i, bias, first := 0x80, 0, 72, true
	for many < len(l) {
		least := -1
		for at, r := range l {
			if !there[at] && (least < 0 || r < l[least]) {
				least = at
			}
		}
		behind := 0
		for _, is := range there[:least] {
			if is {
				behind++
			}
		}
		d := number(n, i, many, int(l[least]), behind)
		out.WriteString(puny.Digits(d, bias)) // its own tests hold Digits against worth
		there[least] = true
		many++
		n, i = int(l[least]), behind+1
		bias, first = adapted(int64(d), int64(many), first), false
	}
	return out.String()
}

// decoded is what Punycode tells: runes, or an error and its place.
func decoded(s string) ([]rune, int, error) {
	if len(s) > 120 {
		return nil, 0, api.ErrLong
	}
	for i := range len(s) {
		if s[i] > 0x7f {
			return nil, i, api.ErrByte
		}
	}
	plain, at := "", 0
	for i := range len(s) {
		if s[i] == '-' && i > 0 {
			plain, at = s[:i], i+1
		}
	}
	l := []rune(plain)
	n, i, bias, first := int64(0x80), int64(0), 72, true
	for at < len(s) {
		for upTo := at + 1; ; upTo++ {
			if upTo > len(s) {
				return nil, len(s), api.ErrEnd
			}
			if !strings.Contains(written, strings.ToLower(s[upTo-1:upTo])) {
				return nil, upTo - 1, api.ErrPuny
			}
			d, ends := worth(strings.ToLower(s[at:upTo]), bias)
			if d.Cmp(big.NewInt(most)) > 0 {
				return nil, upTo - 1, api.ErrLong
			}
			if !ends {
				continue
			}
			n, i = told(n, i, d.Int64(), int64(len(l)))
			if n > 0x10ffff || !right(rune(n)) {
				return nil, upTo - 1, api.ErrRange
			}
			l = append(append(slices.Clone(l[:i]), rune(n)), l[i:]...)
			i++
			bias, first = adapted(d.Int64(), int64(len(l)), first), false
			at = upTo
			break
		}
	}
	return l, 0, nil
}

// told is the place that lies d behind another: row by row as far as that is near, else by division.
func told(n, i, d, many int64) (int64, int64) {
	if d < 1000 {
		for ; i+d > many; n++ {
			d -= many + 1 - i
			i = 0
		}
		return n, i + d
	}
	all := n*(many+1) + i + d
	return all / (many + 1), all % (many + 1)
}

// small is Punycode with its digits in small letters.
func small(s string) string {
	at := strings.LastIndexByte(s, '-')
	return s[:at+1] + strings.ToLower(s[at+1:])
}

// wantDecoded fails unless a text is decoded as it should be, and back.
func wantDecoded(t *testing.T, s string) {
	t.Helper()
	want, place, named := decoded(s)
	got, e := puny.Decode(s)
	wantFault(t, fmt.Sprintf("%q", s), e, place, named)
	if !slices.Equal(got, want) {
		t.Errorf("%q: %x, want %x", s, got, want)
	}
	if named != nil {
		return
	}
	if back, e := puny.Encode(got); back != small(s) || e != nil {
		t.Errorf("%q: back %q, %v", s, back, e)
	}
}

// wantEncoded fails unless runes are encoded as they should be, and back.
func wantEncoded(t *testing.T, l []rune) {
	t.Helper()
	want := encoded(l)
	got, e := puny.Encode(l)
	if len(want) > 120 {
		wantFault(t, fmt.Sprintf("%x", l), e, 0, api.ErrLong)
		want = ""
	} else if e != nil {
		t.Errorf("%x: %v", l, e)
	}
	if got != want {
		t.Errorf("%x: %q, want %q", l, got, want)
	}
	if e != nil {
		return
	}
	for _, s := range []string{got, got[:strings.LastIndexByte(got, '-')+1] + strings.ToUpper(got[strings.LastIndexByte(got, '-')+1:])} {
		if back, e := puny.Decode(s); !slices.Equal(back, l) || e != nil {
			t.Errorf("%x: %q: back %x, %v", l, s, back, e)
		}
	}
}

func TestBiasNamedEdges(t *testing.T) {
	for _, c := range []struct {
		d, many int
		first   bool
		want    int
	}{
		{0, 1, true, 0}, {0, 1, false, 0}, {-1, 1, false, 0}, {math.MinInt, 1, true, 0}, {math.MinInt, math.MinInt, false, 0},
		// 745 by 700 is 1, and 1 by 6 is 0: 36 by 39.
		{745, 6, true, 0}, {745, 6, false, 33}, {699, 1, true, 0}, {700, 1, true, 1}, {1399, 1, true, 1}, {1400, 1, true, 3}, {1, 1, false, 0}, {2, 1, false, 1}, {3, 1, false, 1}, {2, 2, false, 0}, {4, 2, false, 2},
		// At 455, and one above it, which is divided by 35.
		{910, 1000, false, 36 * 455 / 493}, {911, 1000, false, 36 * 455 / 493}, {912, 1000, false, 36 + 36*13/51}, {456, 1, false, 36 + 36*13/51}, {454, 1, false, 36 * 454 / 492},
		// At 455 behind one division by 35, and above it.
		{2 * 15959, 1 << 20, false, 36 + 36*455/493}, {2 * 15960, 1 << 20, false, 72 + 36*13/51}, {700 * 15959, 1 << 20, true, 36 + 36*455/493}, {700 * 15960, 1 << 20, true, 72 + 36*13/51},
		{most, 1, false, 198}, {most + 1, 1, false, 198}, {math.MaxInt, 1, false, 198}, {math.MaxInt, math.MinInt, false, 198}, {most, 0, false, 198}, {most, -1, false, 198},
		{most, 2, false, adapted(most, 2, false)}, {most, most, false, adapted(most, most, false)}, {most, most + 1, false, adapted(most, most, false)}, {most, math.MaxInt, true, adapted(most, most, true)},
	} {
		if got := puny.Bias(c.d, c.many, c.first); got != c.want {
			t.Errorf("%d, %d, %v: %d, want %d", c.d, c.many, c.first, got, c.want)
		}
	}
	// Many is just as great as half of the number, or one greater.
	if a, b := puny.Bias(2*15959, 15959, false), puny.Bias(2*15959, 15960, false); a != 81 || b != 69 {
		t.Errorf("%d, %d", a, b)
	}
	if a, b := puny.Bias(most, most/2, false), puny.Bias(most, most/2+1, false); a != adapted(most, most/2, false) || b != adapted(most, most/2+1, false) {
		t.Errorf("%d, %d", a, b)
	}
}

func TestBiasOfAllKinds(t *testing.T) {
	var ds []int
	for _, d := range []int{0, 455, 700, 910, 2 * 15959, 700 * 455, 700 * 15959, 35 * 35 * 35 * 35, 1 << 30, most, 1 << 32, 1 << 62} {
		ds = append(ds, d-2, d-1, d, d+1, d+2)
	}
	ds = append(ds, math.MinInt, math.MinInt+1, math.MaxInt-1, math.MaxInt)
	for d := range 3000 {
		ds = append(ds, d)
	}
	for _, d := range ds {
		for _, many := range []int{math.MinInt, -1, 0, 1, 2, 3, 7, 59, 119, 120, 455, 456, 1 << 20, most - 1, most, most + 1, 1 << 40, math.MaxInt} {
			for _, first := range []bool{false, true} {
				if got, want := puny.Bias(d, many, first), adapted(int64(d), int64(many), first); got != want {
					t.Fatalf("%d, %d, %v: %d, want %d", d, many, first, got, want)
				}
			}
		}
	}
}

func TestDigitsNamedEdges(t *testing.T) {
	for _, c := range []struct {
		d, bias int
		want    string
	}{
		{0, 72, "a"}, {3, 72, "da"}, {-1, 72, "a"}, {math.MinInt, 72, "a"}, {745, 72, "kva"},
		// The bound is 1: 0 is below it, all others are not.
		{0, 35, "a"}, {1, 35, "ba"}, {35, 35, "9a"}, {36, 35, "bb"}, {1, 72, "ba"}, {35, 72, "9a"}, {36, 72, "bba"}, {0, 1000, "a"}, {1, 1000, "ba"},
		// It is 2, 25 and 26.
		{1, 34, "b"}, {2, 34, "ca"}, {24, 11, "y"}, {25, 11, "za"}, {25, 10, "z"}, {26, 10, "0a"}, {25, 9, "z"}, {26, 9, "0a"},
		{25, 0, "z"}, {26, 0, "0a"}, {35, 0, "9a"}, {36, 0, "0b"}, {25, -1, "z"}, {26, math.MinInt, "0a"}, {285, 0, "9z"}, {286, 0, "00a"},
		// The second digit's bounds.
		{1 + 35*25, 46, "bz"}, {1 + 35*26, 46, "b0a"}, {1 + 35, 71, "bba"}, {1 + 35, 70, "bb"}, {1 + 70, 70, "bca"},
		{most, 0, puny.Digits(most+1, 0)}, {most, 1000, puny.Digits(math.MaxInt, 1001)}, {5000, 1000, puny.Digits(5000, math.MaxInt)}, {5000, 0, puny.Digits(5000, -1)},
	} {
		if got := puny.Digits(c.d, c.bias); got != c.want {
			t.Errorf("%d by %d: %q, want %q", c.d, c.bias, got, c.want)
		}
	}
	if puny.Digits(most, 0) == puny.Digits(most-1, 0) || puny.Digits(1<<27, 10) == puny.Digits(1<<27, 11) {
		t.Error("other numbers, or biases, and the same digits")
	}
}

// wantDigits fails unless digits tell the number by the bias, and end there.
func wantDigits(t *testing.T, d, bias int) {
	t.Helper()
	s := puny.Digits(d, bias)
	n, ends := worth(s, min(max(bias, 0), 1000))
	if !ends || n.Cmp(big.NewInt(int64(min(max(d, 0), most)))) != 0 {
		t.Errorf("%d by %d: %q tells %d, ends %v", d, bias, s, n, ends)
	}
}

func TestDigitsOfAllKinds(t *testing.T) {
	var biases []int
	for bias := -40; bias <= 260; bias++ {
		biases = append(biases, bias)
	}
	biases = append(biases, math.MinInt, 998, 999, 1000, 1001, 1036, 1<<31, 1<<32, math.MaxInt-36, math.MaxInt-35, math.MaxInt)
	for _, bias := range biases {
		for d := range 2500 {
			wantDigits(t, d, bias)
		}
		for _, d := range []int{math.MinInt, -1, 35 * 35 * 35, 35 * 1225 * 35, 1 << 20, 1 << 27, most - 1, most, most + 1, 1 << 32, 1<<32 + 1, math.MaxInt} {
			wantDigits(t, d, bias)
		}
	}
}

// known are texts whose Punycode others tell (RFC 3492, 7.1).
var known = []struct{ text, code string }{
	{"b\u00fccher", "bcher-kva"}, {"\u00fc", "tda"},
	{"ليهمابتكلموشعربي؟", "egbpdaj6bu4bxfgehfvwxn"},
	{"他们为什么不说中文", "ihqwcrb4cv8a8dqg056pqjye"},
	{"他們爲什麽不說中文", "ihqwctvzc91f659drss3x8bo0yb"},
	{"Pro\u010dprost\u011bnemluv\u00ed\u010desky", "Proprostnemluvesky-uyb24dma41a"},
	{"למההםפשוטלאמדבריםעברית", "4dbcagdahymbxekheh6e0a7fei0b"},
	{"почемужеонинеговорятпорусски", "b1abfaaepdrnnbgefbadotcwatmq2g4l"},
	{"なぜみんな日本語を話してくれないのか", "n8jok5ay5dzabd5bym9f0cm5685rrjetr6pdxa"},
	{"Porqu\u00e9nopuedensimplementehablarenEspa\u00f1ol", "PorqunopuedensimplementehablarenEspaol-fmd56a"},
	{"T\u1ea1isaoh\u1ecdkh\u00f4ngth\u1ec3ch\u1ec9n\u00f3iti\u1ebfngVi\u1ec7t", "TisaohkhngthchnitingVit-kjcr8268qyxafd2f1b9g"},
	{"3年B組金八先生", "3B-ww4c5e180e575a65lsy2b"},
	{"安室奈美恵-with-SUPER-MONKEYS", "-with-SUPER-MONKEYS-pc58ag80a8qai00g7n9n"},
	{"Hello-Another-Way-それぞれの場所", "Hello-Another-Way--fc4qua05auwb3674vfr0b"},
	{"ひとつ屋根の下2", "2-u9tlzr9756bt3uc0v"},
	{"MajiでKoiする5秒前", "MajiKoi5-783gue6qz075azm5e"},
	{"パフィーdeルンバ", "de-jg4avhby1noc0d"},
	{"そのスピードで", "d9juau41awczczp"},
	{"-> $1.00 <-", "-> $1.00 <--"},
}

func TestKnown(t *testing.T) {
	for _, c := range known {
		l := []rune(c.text)
		if got, e := puny.Encode(l); got != c.code || e != nil {
			t.Errorf("%q: %q, %v, want %q", c.text, got, e, c.code)
		}
		if got, e := puny.Decode(c.code); !slices.Equal(got, l) || e != nil {
			t.Errorf("%q: %q, %v, want %q", c.code, string(got), e, c.text)
		}
		if got := encoded(l); got != c.code {
			t.Errorf("%q: the other way tells %q", c.text, got)
		}
	}
	// As the RFC writes it: a capital letter among the digits.
	if got, e := puny.Decode("b1abfaaepdrnnbgefbaDotcwatmq2g4l"); string(got) != "почемужеонинеговорятпорусски" || e != nil {
		t.Errorf("%q, %v", string(got), e)
	}
}

func TestEncodeNamedEdges(t *testing.T) {
	for _, c := range []struct {
		l     []rune
		want  string
		place int
		named error
	}{
		{nil, "", 0, nil}, {[]rune{}, "", 0, nil}, {[]rune{0x62, 0xfc, 0x63, 0x68, 0x65, 0x72}, "bcher-kva", 0, nil},
		// Below 80 alone, the least and the greatest of them, and what isn't.
		{[]rune{'a'}, "a-", 0, nil}, {[]rune{0}, "\x00-", 0, nil}, {[]rune{0x7f}, "\x7f-", 0, nil}, {[]rune{0x80}, "a", 0, nil}, {[]rune{0x81}, "ba", 0, nil}, {[]rune{'c', 'B', 'a'}, "cBa-", 0, nil},
		// Hyphens.
		{[]rune{'-'}, "--", 0, nil}, {[]rune{'-', '-'}, "---", 0, nil}, {[]rune{'a', '-', 0xe9}, "a--cja", 0, nil}, {[]rune{0x80, '-'}, "--a", 0, nil}, {[]rune{'-', 0x80}, "--ba", 0, nil}, {[]rune{'-', 'a', 0x80}, "-a-" + puny.Digits(2, 72), 0, nil},
		// More than once, and next to one another.
		{[]rune{0x80, 0x80}, "aa", 0, nil}, {[]rune{0x80, 0x80, 0x80}, "aaa", 0, nil}, {[]rune{0x80, 0x81}, "ac", 0, nil}, {[]rune{0x81, 0x80}, "ab", 0, nil}, {[]rune{'a', 0x80, 'a', 0x80}, "aa-" + puny.Digits(1, 72) + puny.Digits(1, puny.Bias(1, 3, true)), 0, nil},
		{[]rune{0xd7ff}, puny.Digits(0xd7ff-0x80, 72), 0, nil}, {[]rune{0xe000}, puny.Digits(0xe000-0x80, 72), 0, nil}, {[]rune{0x10ffff}, puny.Digits(0x10ffff-0x80, 72), 0, nil},
		// What isn't right, at the beginning, in between and last.
		{[]rune{-1}, "", 0, api.ErrRange}, {[]rune{math.MinInt32, 'a'}, "", 0, api.ErrRange}, {[]rune{'a', -1, 'b'}, "", 1, api.ErrRange}, {[]rune{'a', 0xfc, -128}, "", 2, api.ErrRange},
		{[]rune{0xd800, 'a'}, "", 0, api.ErrRange}, {[]rune{'a', 0xdfff}, "", 1, api.ErrRange}, {[]rune{'a', 0xfc, 0xdabc, 'b'}, "", 2, api.ErrRange},
		{[]rune{0x110000}, "", 0, api.ErrRange}, {[]rune{0xfc, 0x110000, 'a'}, "", 1, api.ErrRange}, {[]rune{0xfc, 'a', math.MaxInt32}, "", 2, api.ErrRange}, {[]rune{'a', 0x110000, -1, 0xd800}, "", 1, api.ErrRange},
	} {
		got, e := puny.Encode(c.l)
		wantFault(t, fmt.Sprintf("%x", c.l), e, c.place, c.named)
		if got != c.want {
			t.Errorf("%x: %q, want %q", c.l, got, c.want)
		}
	}
}

// times is a rune, so often.
func times(r rune, n int) []rune {
	return slices.Repeat([]rune{r}, n)
}

func TestEncodeLong(t *testing.T) {
	for _, c := range []struct {
		l     []rune
		many  int // bytes that its Punycode has
		place int
		named error
	}{
		{times('a', 119), 120, 0, nil}, {times('a', 120), 121, 0, api.ErrLong}, {times('-', 119), 120, 0, nil}, {times(0x80, 120), 120, 0, nil}, {times(0x80, 121), 121, 0, api.ErrLong}, {times('a', 121), 122, 0, api.ErrLong}, {times(0, 5000), 0, 0, api.ErrLong}, {times(0x10ffff, 5000), 0, 0, api.ErrLong},
		{append(times(0x80, 1), times('a', 118)...), 120, 0, nil}, {append(times(0x80, 1), times('a', 119)...), 121, 0, api.ErrLong}, {append(times(0x81, 1), times('a', 116)...), 120, 0, nil}, {append(times(0x81, 1), times('a', 117)...), 121, 0, api.ErrLong},
		// A rune that isn't right is told ahead, wherever it stands.
		{append(times('a', 120), -1), 0, 120, api.ErrRange}, {append(times('a', 119), 0x110000), 0, 119, api.ErrRange}, {append(times(0x80, 5000), 0xd800), 0, 5000, api.ErrRange}, {append(append(times('a', 200), 0xd800), times(-1, 200)...), 0, 200, api.ErrRange},
	} {
		got, e := puny.Encode(c.l)
		wantFault(t, fmt.Sprintf("%d runes", len(c.l)), e, c.place, c.named)
		if c.many > 0 && len(encoded(c.l)) != c.many {
			t.Errorf("%d runes: the other way tells %q", len(c.l), encoded(c.l))
		}
		if c.named != nil && got != "" || c.named == nil && len(got) != c.many {
			t.Errorf("%d runes: %q", len(c.l), got)
		}
	}
	// Just at the limit, and with one byte more, with each width of numbers.
	for _, r := range []rune{0x80, 0x81, 0xfc, 0x3b1, 0x4ed6, 0xfffd} {
		for n := 80; n <= 121; n++ {
			wantEncoded(t, append(times('b', n), r))
			wantEncoded(t, append([]rune{r}, times('b', n)...))
		}
		for n := range 30 {
			wantEncoded(t, append(times('b', 90), times(r, n)...))
		}
	}
}

func TestEncodeShort(t *testing.T) {
	eachOf([]rune{'a', '-', 0x7f, 0x80, 0x81, 0xfc, 0x3b1, 0x3b2}, 5, func(l []rune) { wantEncoded(t, l) })
	eachOf([]rune{0, 'Z', '-', 0x4ed6, 0xd7ff, 0xe000, 0x1f600}, 3, func(l []rune) { wantEncoded(t, l) })
	eachOf([]rune{'a', 0x10ffff, 0x10fffe}, 2, func(l []rune) { wantEncoded(t, l) })
}

func TestEncodeFirstWrong(t *testing.T) {
	eachOf([]rune{'a', 0xfc, -1, 0xd800, 0xdfff, 0x110000, math.MinInt32, math.MaxInt32}, 4, func(l []rune) {
		at := slices.IndexFunc(l, func(r rune) bool { return !right(r) })
		if at < 0 {
			return
		}
		got, e := puny.Encode(l)
		wantFault(t, fmt.Sprintf("%x", l), e, at, api.ErrRange)
		if got != "" {
			t.Errorf("%x: %q", l, got)
		}
	})
}

func TestEncodeEachRune(t *testing.T) {
	for r := rune(0x80); r <= 0x10ffff; r += 7 {
		if !right(r) {
			continue
		}
		got, e := puny.Encode([]rune{r})
		if n, ends := worth(got, 72); !ends || n.Cmp(big.NewInt(int64(r)-0x80)) != 0 || e != nil {
			t.Fatalf("%x: %q, %v", r, got, e)
		}
		if back, e := puny.Decode(got); !slices.Equal(back, []rune{r}) || e != nil {
			t.Fatalf("%x: %q: back %x, %v", r, got, back, e)
		}
	}
	for r := rune(0); r < 0x80; r++ {
		got, e := puny.Encode([]rune{r})
		back, f := puny.Decode(got)
		if got != string(r)+"-" || e != nil || f != nil || !slices.Equal(back, []rune{r}) {
			t.Errorf("%x: %q, %v, back %x, %v", r, got, e, back, f)
		}
	}
}

func TestDecodeNamedEdges(t *testing.T) {
	long := strings.Repeat("a", 120)
	for _, c := range []struct {
		s     string
		want  []rune
		place int
		named error
	}{
		{"", nil, 0, nil}, {"bcher-kva", []rune{'b', 0xfc, 'c', 'h', 'e', 'r'}, 0, nil}, {"-a", nil, 0, api.ErrPuny}, {"kv", nil, 2, api.ErrEnd},
		{long, times(0x80, 120), 0, nil}, {long + "a", nil, 0, api.ErrLong}, {long[:119] + "-", times('a', 119), 0, nil}, {long + "-", nil, 0, api.ErrLong}, {strings.Repeat("\xff", 121), nil, 0, api.ErrLong}, {strings.Repeat("\xff", 120), nil, 0, api.ErrByte}, {strings.Repeat("-", 121), nil, 0, api.ErrLong}, {strings.Repeat("-", 120), times('-', 119), 0, nil}, {strings.Repeat("x", 1<<20), nil, 0, api.ErrLong},
		// A byte that isn't below 80 is told ahead of all behind it, wherever it stands.
		{"\x80", nil, 0, api.ErrByte}, {"\xff-a", nil, 0, api.ErrByte}, {"_\x80", nil, 1, api.ErrByte}, {"-a\xc3\xbc", nil, 2, api.ErrByte}, {"99999999\x80\xff", nil, 8, api.ErrByte}, {"kv\x80", nil, 2, api.ErrByte}, {"b\xfcc-kva", nil, 1, api.ErrByte}, {"\u00fc", nil, 0, api.ErrByte}, {"a\xef\xbf\xbd", nil, 1, api.ErrByte}, {"a\x7f\x80", nil, 2, api.ErrByte},
		// Hyphens.
		{"-", nil, 0, api.ErrPuny}, {"--", []rune{'-'}, 0, nil}, {"---", []rune{'-', '-'}, 0, nil}, {"a-", []rune{'a'}, 0, nil}, {"a--", []rune{'a', '-'}, 0, nil}, {"--a", []rune{0x80, '-'}, 0, nil}, {"a-b-a", []rune{0x80, 'a', '-', 'b'}, 0, nil}, {"-a-", []rune{'-', 'a'}, 0, nil}, {"-a-a", []rune{0x80, '-', 'a'}, 0, nil}, {"-_", nil, 0, api.ErrPuny}, {"-kv", nil, 0, api.ErrPuny}, {"--_", nil, 2, api.ErrPuny}, {"_-a", []rune{0x80, '_'}, 0, nil}, {"\x00\x7f-", []rune{0, 0x7f}, 0, nil},
		// Capital letters.
		{"TDA", []rune{0xfc}, 0, nil}, {"tDa", []rune{0xfc}, 0, nil}, {"B-TDA", nil, 0, nil}, {"BC-KVA", nil, 0, nil}, {"bCher-KvA", []rune{'b', 0xfc, 'C', 'h', 'e', 'r'}, 0, nil}, {"A", []rune{0x80}, 0, nil}, {"AA", []rune{0x80, 0x80}, 0, nil}, {"A-", []rune{'A'}, 0, nil},
		// No digit.
		{"_", nil, 0, api.ErrPuny}, {"a_", nil, 1, api.ErrPuny}, {"a-k_", nil, 3, api.ErrPuny}, {"a-kv!", nil, 4, api.ErrPuny}, {"k_v", nil, 1, api.ErrPuny}, {"a\x00", nil, 1, api.ErrPuny}, {"a\x7f", nil, 1, api.ErrPuny}, {"a-\x7f", nil, 2, api.ErrPuny}, {"`", nil, 0, api.ErrPuny}, {"{", nil, 0, api.ErrPuny}, {"@", nil, 0, api.ErrPuny}, {"[", nil, 0, api.ErrPuny}, {"/", nil, 0, api.ErrPuny}, {":", nil, 0, api.ErrPuny},
		// Ends within a number.
		{"k", nil, 1, api.ErrEnd}, {"b", nil, 1, api.ErrEnd}, {"9", nil, 1, api.ErrEnd}, {"a-k", nil, 3, api.ErrEnd}, {"tdak", []rune{0xfc, 0x101}, 0, nil}, {"tda0", nil, 4, api.ErrEnd}, {"999999", nil, 6, api.ErrEnd},
		// Above 2^31 - 1, at the digit.
		{"99999999", nil, 7, api.ErrLong}, {"9999999999", nil, 7, api.ErrLong}, {"99999999_", nil, 7, api.ErrLong}, {"9999999_", nil, 7, api.ErrPuny}, {"a-99999999", nil, 9, api.ErrLong}, {"9999999", nil, 7, api.ErrEnd},
		// No right rune, at the last digit.
		{puny.Digits(0xd7ff-0x80, 72), []rune{0xd7ff}, 0, nil}, {puny.Digits(0xd800-0x80, 72), nil, 3, api.ErrRange}, {puny.Digits(0xdfff-0x80, 72), nil, 3, api.ErrRange}, {puny.Digits(0xe000-0x80, 72), []rune{0xe000}, 0, nil}, {puny.Digits(0x10ffff-0x80, 72), []rune{0x10ffff}, 0, nil}, {puny.Digits(0x110000-0x80, 72), nil, 4, api.ErrRange},
		{puny.Digits(0xd800-0x80, 72) + "_", nil, 3, api.ErrRange}, {puny.Digits(0x110000-0x80, 72) + "9999999999", nil, 4, api.ErrRange}, {"_" + puny.Digits(0x110000-0x80, 72), nil, 0, api.ErrPuny},
	} {
		got, e := puny.Decode(c.s)
		if c.want == nil && c.named == nil && c.s != "" {
			c.want, _, _ = decoded(c.s)
			if len(c.want) == 0 {
				t.Errorf("%q: the other way tells nothing", c.s)
			}
		}
		wantFault(t, fmt.Sprintf("%q", c.s), e, c.place, c.named)
		if !slices.Equal(got, c.want) {
			t.Errorf("%q: %x, want %x", c.s, got, c.want)
		}
	}
}

// digitsOf are the digits by a bias of a number of any size.
func digitsOf(d, bias int) (s string) {
	for _, t := range bounds(bias, 60) {
		if d < t {
			return s + written[d:d+1]
		}
		value := t + (d-t)%(36-t)
		s += written[value : value+1]
		d = (d - t) / (36 - t)
	}
	return s
}

func TestDecodeAtTheLastNumber(t *testing.T) {
	at := len(digitsOf(most, 72)) - 1
	for _, c := range []struct {
		s     string
		place int
		named error
	}{
		{digitsOf(most, 72), at, api.ErrRange}, {digitsOf(most+1, 72), at, api.ErrLong}, {digitsOf(most-1, 72), at, api.ErrRange}, {digitsOf(most+1, 72) + "_", at, api.ErrLong},
		{"abc-" + digitsOf(most, 72), at + 4, api.ErrRange}, {"abc-" + digitsOf(most+1, 72), at + 4, api.ErrLong},
		{"a" + digitsOf(most, 0), len(digitsOf(most, 0)), api.ErrRange}, {"a" + digitsOf(most+1, 0), len(digitsOf(most+1, 0)), api.ErrLong},
		// Numbers that would be right ones again, if only their last 32 or 64 bits were kept.
		{digitsOf(1<<32, 72), at, api.ErrLong}, {digitsOf(1<<32+0x20, 72), at, api.ErrLong}, {strings.Repeat("9", 119) + "a", 7, api.ErrLong}, {"baba" + strings.Repeat("9", 116), 12, api.ErrLong},
	} {
		got, e := puny.Decode(c.s)
		wantFault(t, c.s, e, c.place, c.named)
		if len(got) != 0 {
			t.Errorf("%q: %x", c.s, got)
		}
	}
}

func TestDecodeShort(t *testing.T) {
	for a := range 256 {
		wantDecoded(t, string([]byte{byte(a)}))
		for b := range 256 {
			wantDecoded(t, string([]byte{byte(a), byte(b)}))
			wantDecoded(t, string([]byte{'x', '-', byte(a), byte(b)}))
			wantDecoded(t, string([]byte{'t', 'd', byte(a), byte(b)}))
		}
	}
	eachOf([]byte{'a', 'b', 'k', 'Z', '0', '9', '-', '_', 0x80}, 5, func(s []byte) { wantDecoded(t, string(s)) })
	eachOf([]byte{'a', 'B', '9'}, 9, func(s []byte) { wantDecoded(t, string(s)) })
}

func TestBothWaysAreNotTheCallersMemory(t *testing.T) {
	room := []rune{'b', 0xfc, 'c', -1, -1}
	if got, e := puny.Encode(room[:3]); got != encoded(room[:3]) || e != nil {
		t.Errorf("%q, %v", got, e)
	}
	if !slices.Equal(room, []rune{'b', 0xfc, 'c', -1, -1}) {
		t.Errorf("changed: %x", room)
	}
	for _, s := range []string{"abc-", "bcher-kva", "tda"} {
		first, _ := puny.Decode(s)
		want := slices.Clone(first)
		for i := range first {
			first[i] = 'x'
		}
		_ = append(first[:0], times('y', cap(first))...)
		if second, e := puny.Decode(s); !slices.Equal(second, want) || e != nil {
			t.Errorf("%q: %x, %v, want %x", s, second, e, want)
		}
	}
}

// drawn are runes of all kinds, or bytes that are nearly Punycode.
func drawn(r *rand.Rand) ([]rune, string) {
	var l []rune
	from, wide := 0x80+r.Intn(0x3000), 1+r.Intn(0x200)
	for range r.Intn(40) {
		switch r.Intn(8) {
		case 0, 1:
			l = append(l, rune(r.Intn(0x80)))
		case 2:
			l = append(l, '-')
		default:
			l = append(l, rune(from+r.Intn(wide)))
		}
	}
	s := []byte(encoded(l))
	for range r.Intn(4) {
		if len(s) > 0 {
			s[r.Intn(len(s))] = "abkzAZ09-_\x80"[r.Intn(11)]
		}
	}
	return l, string(s[:len(s)-min(len(s), r.Intn(3))])
}

func TestDrawn(t *testing.T) {
	r := rand.New(rand.NewSource(6))
	for range 4000 {
		l, s := drawn(r)
		wantEncoded(t, l)
		wantDecoded(t, s)
	}
}

func FuzzDrawn(f *testing.F) {
	for _, c := range known {
		f.Add(c.code)
	}
	f.Fuzz(func(t *testing.T, s string) { wantDecoded(t, s) })
}

func TestEndsAtAnyArguments(t *testing.T) {
	ints := []int{math.MinInt, math.MinInt + 1, math.MinInt32, -1000, -1, 0, 1, 35, 36, 72, 1000, most, 1 << 31, 1 << 32, math.MaxInt - 1, math.MaxInt}
	for _, a := range ints {
		for _, b := range ints {
			puny.Bias(a, b, true)
			puny.Bias(a, b, false)
			if puny.Digits(a, b) == "" {
				t.Errorf("%d by %d: no digit", a, b)
			}
		}
	}
	for _, r := range []rune{math.MinInt32, -1, 0, 0x80, 0xd800, 0x10ffff, 0x110000, math.MaxInt32} {
		puny.Encode(times(r, 100000))
		puny.Decode(string(times(r, 100000)))
	}
}
