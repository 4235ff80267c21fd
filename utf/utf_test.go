package utf_test

import (
	"cmp"
	"errors"
	"math"
	"slices"
	"strings"
	"testing"
	"unicode/utf8"

	"eponym/api"
	"eponym/utf"
)

// edgeRunes are the right runes at the bounds of widths and around d800 to dfff, in rising order.
var edgeRunes = []rune{0, 1, 0x41, 0x7e, 0x7f, 0x80, 0x81, 0xbf, 0xc0, 0xe9, 0xff, 0x100, 0x7be, 0x7c0, 0x7ff, 0x800, 0x801, 0xfff, 0x1000, 0x20ac, 0xcfff, 0xd000, 0xd7ff, 0xe000, 0xefff, 0xf000, 0xfeff, 0xfffd, 0xfffe, 0xffff, 0x10000, 0x1f600, 0x3ffff, 0x40000, 0xfffff, 0x100000, 0x10fffe, 0x10ffff}

var wrongRunes = []rune{-1, -2, -0x80, math.MinInt32, 0xd800, 0xd801, 0xdbff, 0xdc00, 0xdffe, 0xdfff, 0x110000, 0x110001, 0x13ffff, 0x1fffff, 0x200000, math.MaxInt32}

// edgeBytes are the bytes at the bounds of kinds of bytes, and of what may stand behind some of them.
var edgeBytes = []byte{0, 0x41, 0x7f, 0x80, 0x8f, 0x90, 0x9f, 0xa0, 0xbf, 0xc0, 0xc1, 0xc2, 0xdf, 0xe0, 0xe1, 0xec, 0xed, 0xee, 0xef, 0xf0, 0xf1, 0xf3, 0xf4, 0xf5, 0xf7, 0xf8, 0xfc, 0xff}

// wantFault fails unless the error is just a Fault of that named error at that place.
func wantFault(t *testing.T, what string, e error, place int, named error) {
	t.Helper()
	if named == nil {
		if e != nil {
			t.Errorf("%q: %v, want no error", what, e)
		}
		return
	}
	var f *api.Fault
	if !errors.As(e, &f) {
		t.Errorf("%q: %v is no Fault", what, e)
		return
	}
	if f.At != place || !errors.Is(e, named) {
		t.Errorf("%q: %q at %d, want %q at %d", what, f.Err, f.At, named, place)
	}
}

// oracle is what Next is to answer at a place within, as the library's UTF-8 has it.
func oracle(s string) (rune, int, error) {
	r, width := utf8.DecodeRuneInString(s)
	switch {
	case r != utf8.RuneError || width > 1:
		return r, width, nil
	case !utf8.FullRuneInString(s):
		return 0, 0, api.ErrEnd
	}
	return 0, 0, api.ErrByte
}

// eachText hands over all texts of so many bytes that are made of these.
func eachText(letters []byte, length int, do func(string)) {
	b := make([]byte, length)
	var fill func(int)
	fill = func(at int) {
		if at == length {
			do(string(b))
			return
		}
		for _, c := range letters {
			b[at] = c
			fill(at + 1)
		}
	}
	fill(0)
}

func allBytes() []byte {
	var l []byte
	for i := range 256 {
		l = append(l, byte(i))
	}
	return l
}

// P1.1: Right and Width.

func TestWidthAtBounds(t *testing.T) {
	for _, c := range []struct {
		r     rune
		width int
	}{
		{0, 1}, {'a', 1}, {0x7f, 1},
		{0x80, 2}, {0xe9, 2}, {0x7ff, 2},
		{0x800, 3}, {0x20ac, 3}, {0xd7ff, 3}, {0xe000, 3}, {0xfffd, 3}, {0xffff, 3},
		{0x10000, 4}, {0x1f600, 4}, {0x10ffff, 4},
	} {
		if got := utf.Width(c.r); got != c.width || !utf.Right(c.r) {
			t.Errorf("%x: width %d, right %v, want %d", c.r, got, utf.Right(c.r), c.width)
		}
	}
	for _, r := range wrongRunes {
		if utf.Width(r) != 0 || utf.Right(r) {
			t.Errorf("%x: width %d, right %v", r, utf.Width(r), utf.Right(r))
		}
	}
}

func TestWidthOfAllRunes(t *testing.T) {
	for r := rune(-0x1000); r <= 0x120000; r++ {
		want := max(utf8.RuneLen(r), 0)
		if utf.Width(r) != want || utf.Right(r) != (want > 0) {
			t.Fatalf("%x: width %d, right %v, want %d", r, utf.Width(r), utf.Right(r), want)
		}
	}
}

// P1.1: Next.

func TestNextOutside(t *testing.T) {
	for _, s := range []string{"", "a", "\xff", "\xe2\x82", "a\u00e9\u20ac\U0001f600"} {
		for _, at := range []int{-1, -2, math.MinInt, len(s), len(s) + 1, math.MaxInt} {
			r, width, e := utf.Next(s, at)
			if r != 0 || width != 0 {
				t.Errorf("%q at %d: %x, %d beside an error", s, at, r, width)
			}
			wantFault(t, s, e, at, api.ErrRange)
		}
	}
}

func TestNextWithin(t *testing.T) {
	s := "a\u00e9\u20ac\U0001f600\x00"
	for _, c := range []struct {
		at    int
		r     rune
		width int
	}{{0, 'a', 1}, {1, 0xe9, 2}, {3, 0x20ac, 3}, {6, 0x1f600, 4}, {10, 0, 1}} {
		if r, width, e := utf.Next(s, c.at); r != c.r || width != c.width || e != nil {
			t.Errorf("at %d: %x, %d, %v", c.at, r, width, e)
		}
	}
	for _, at := range []int{2, 4, 5, 7, 8, 9} {
		_, _, e := utf.Next(s, at)
		wantFault(t, "within a form", e, at, api.ErrByte)
	}
}

func TestNextFaults(t *testing.T) {
	for _, c := range []struct {
		s     string
		named error
	}{
		// Bytes that begin no form.
		{"\x80", api.ErrByte}, {"\xbf", api.ErrByte}, {"\xc0", api.ErrByte}, {"\xc1", api.ErrByte}, {"\xf5", api.ErrByte}, {"\xf7", api.ErrByte}, {"\xf8", api.ErrByte}, {"\xfe", api.ErrByte}, {"\xff", api.ErrByte},
		// Forms that are too long for their rune, and their beginnings.
		{"\xc0\x80", api.ErrByte}, {"\xc1\xbf", api.ErrByte}, {"\xe0\x80\x80", api.ErrByte}, {"\xe0\x9f\xbf", api.ErrByte}, {"\xe0\x9f", api.ErrByte}, {"\xf0\x80\x80\x80", api.ErrByte}, {"\xf0\x8f\xbf\xbf", api.ErrByte}, {"\xf0\x8f\xbf", api.ErrByte}, {"\xf0\x8f", api.ErrByte},
		// d800 to dfff, and beyond 10ffff.
		{"\xed\xa0\x80", api.ErrByte}, {"\xed\xbf\xbf", api.ErrByte}, {"\xed\xa0", api.ErrByte}, {"\xf4\x90\x80\x80", api.ErrByte}, {"\xf4\x90\x80", api.ErrByte}, {"\xf4\x90", api.ErrByte}, {"\xf5\x80\x80\x80", api.ErrByte}, {"\xf8\x88\x80\x80\x80", api.ErrByte},
		// Texts that end within a form.
		{"\xc2", api.ErrEnd}, {"\xdf", api.ErrEnd}, {"\xe0", api.ErrEnd}, {"\xe0\xa0", api.ErrEnd}, {"\xe2\x82", api.ErrEnd}, {"\xed", api.ErrEnd}, {"\xed\x9f", api.ErrEnd}, {"\xef\xbf", api.ErrEnd}, {"\xf0", api.ErrEnd}, {"\xf0\x90", api.ErrEnd}, {"\xf0\x9f\x98", api.ErrEnd}, {"\xf4", api.ErrEnd}, {"\xf4\x8f", api.ErrEnd}, {"\xf4\x8f\xbf", api.ErrEnd},
		// Other bytes within a form.
		{"\xc2a", api.ErrByte}, {"\xc2\xc2", api.ErrByte}, {"\xe2a", api.ErrByte}, {"\xe2\x28\xa1", api.ErrByte}, {"\xe2\x82a", api.ErrByte}, {"\xf0\x9f\x98a", api.ErrByte}, {"\xf0\x9fa", api.ErrByte}, {"\xf0\x9f\x98\xff", api.ErrByte},
	} {
		for _, ahead := range []string{"", "a", "\u20ac", "\xff\xff"} {
			r, width, e := utf.Next(ahead+c.s, len(ahead))
			if r != 0 || width != 0 {
				t.Errorf("%q behind %q: %x, %d beside an error", c.s, ahead, r, width)
			}
			wantFault(t, c.s, e, len(ahead), c.named)
		}
	}
}

func TestNextOfShortTexts(t *testing.T) {
	check := func(s string) {
		wantR, wantWidth, named := oracle(s)
		r, width, e := utf.Next(s, 0)
		if r != wantR || width != wantWidth {
			t.Errorf("%q: %x, %d, want %x, %d", s, r, width, wantR, wantWidth)
		}
		wantFault(t, s, e, 0, named)
	}
	eachText(allBytes(), 1, check)
	eachText(allBytes(), 2, check)
	eachText(edgeBytes, 3, check)
	eachText(edgeBytes, 4, check)
}

// P1.2: Decode, Valid, Encode.

func TestDecode(t *testing.T) {
	for _, c := range []struct {
		s string
		l []rune
	}{
		{"", nil}, {"\x00", []rune{0}}, {"eponym", []rune{'e', 'p', 'o', 'n', 'y', 'm'}}, {"\xe2\x82\xac", []rune{0x20ac}}, {"b\u00fccher", []rune{'b', 0xfc, 'c', 'h', 'e', 'r'}}, {"\xf4\x8f\xbf\xbf\x7f\xed\x9f\xbf\xee\x80\x80", []rune{0x10ffff, 0x7f, 0xd7ff, 0xe000}},
	} {
		if l, e := utf.Decode(c.s); !slices.Equal(l, c.l) || e != nil || !utf.Valid(c.s) {
			t.Errorf("%q: %x, %v, valid %v", c.s, l, e, utf.Valid(c.s))
		}
	}
}

func TestDecodeFirstFault(t *testing.T) {
	for _, c := range []struct {
		s     string
		place int
		named error
	}{
		{"\xc0\x80", 0, api.ErrByte}, {"a\xe2\x82", 1, api.ErrEnd}, {"\u20ac\x80", 3, api.ErrByte}, {"\U0001f600\u00e9\xed\xa0\x80", 6, api.ErrByte}, {"a\xffb\xe2\x82", 1, api.ErrByte}, {"ab\xe2\x82\xff", 2, api.ErrByte}, {"ab\xf0\x9f\x98", 2, api.ErrEnd}, {strings.Repeat("\u00e9", 5000) + "\xc3", 10000, api.ErrEnd},
	} {
		l, e := utf.Decode(c.s)
		if len(l) != 0 || utf.Valid(c.s) {
			t.Errorf("%q: %x beside an error, valid %v", c.s, l, utf.Valid(c.s))
		}
		wantFault(t, c.s, e, c.place, c.named)
	}
}

// wantDecoded holds Decode and Valid against Next and against the library.
func wantDecoded(t *testing.T, s string) {
	t.Helper()
	var want []rune
	for at := 0; at < len(s); {
		r, width, named := oracle(s[at:])
		if named != nil {
			l, e := utf.Decode(s)
			wantFault(t, s, e, at, named)
			if len(l) != 0 || utf.Valid(s) {
				t.Errorf("%q: %x beside an error", s, l)
			}
			return
		}
		want = append(want, r)
		at += width
	}
	if l, e := utf.Decode(s); !slices.Equal(l, want) || e != nil || !utf.Valid(s) {
		t.Errorf("%q: %x, %v, want %x", s, l, e, want)
	}
}

func TestDecodeOfShortTexts(t *testing.T) {
	check := func(s string) { wantDecoded(t, s) }
	eachText(allBytes(), 1, check)
	eachText(allBytes(), 2, check)
	eachText(edgeBytes, 3, check)
	eachText(edgeBytes, 4, check)
}

func TestEncode(t *testing.T) {
	for _, c := range []struct {
		l []rune
		s string
	}{
		{nil, ""}, {[]rune{}, ""}, {[]rune{0}, "\x00"}, {[]rune{0x7f, 0x80}, "\x7f\xc2\x80"}, {[]rune{0x7ff, 0x800}, "\xdf\xbf\xe0\xa0\x80"}, {[]rune{0x20ac}, "\xe2\x82\xac"}, {[]rune{0xd7ff, 0xe000}, "\xed\x9f\xbf\xee\x80\x80"}, {[]rune{0xffff, 0x10000}, "\xef\xbf\xbf\xf0\x90\x80\x80"}, {[]rune{0x10ffff}, "\xf4\x8f\xbf\xbf"},
	} {
		if s, e := utf.Encode(c.l); s != c.s || e != nil {
			t.Errorf("%x: %q, %v, want %q", c.l, s, e, c.s)
		}
	}
}

func TestEncodeFirstFault(t *testing.T) {
	for _, wrong := range wrongRunes {
		for _, ahead := range [][]rune{nil, {'a'}, {0x20ac, 0x10ffff, 0}} {
			s, e := utf.Encode(append(slices.Clone(ahead), wrong, 'b', 0xdfff))
			if s != "" {
				t.Errorf("%x: %q beside an error", wrong, s)
			}
			wantFault(t, "encode", e, len(ahead), api.ErrRange)
		}
	}
}

func TestEncodeReadsItsListAlone(t *testing.T) {
	room := []rune{'a', 0x20ac, 0xd800, 'z'}
	if s, e := utf.Encode(room[:2]); s != "a\u20ac" || e != nil {
		t.Errorf("%q, %v", s, e)
	}
	if !slices.Equal(room, []rune{'a', 0x20ac, 0xd800, 'z'}) {
		t.Errorf("%x", room)
	}
}

func TestDecodedIsNew(t *testing.T) {
	l, _ := utf.Decode("abc")
	l[0] = 'z'
	if again, _ := utf.Decode("abc"); !slices.Equal(again, []rune{'a', 'b', 'c'}) {
		t.Errorf("%x", again)
	}
}

// P1.3: there and back, and the order.

func TestEncodedIsDecoded(t *testing.T) {
	var all []rune
	for r := rune(0); r <= api.MaxRune; r++ {
		if r >= 0xd800 && r <= 0xdfff {
			continue
		}
		all = append(all, r)
		s, e := utf.Encode([]rune{r})
		if s != string(r) || e != nil || len(s) != utf.Width(r) {
			t.Fatalf("%x: %q, %v", r, s, e)
		}
		if back, width, e := utf.Next(s, 0); back != r || width != len(s) || e != nil {
			t.Fatalf("%x: %x, %d, %v", r, back, width, e)
		}
	}
	for _, l := range [][]rune{all, edgeRunes, nil} {
		s, e := utf.Encode(l)
		if back, f := utf.Decode(s); !slices.Equal(back, l) || e != nil || f != nil {
			t.Errorf("%d runes: %d, %v, %v", len(l), len(back), e, f)
		}
	}
}

func TestDecodedIsEncoded(t *testing.T) {
	check := func(s string) {
		l, e := utf.Decode(s)
		if e != nil {
			return
		}
		if back, f := utf.Encode(l); back != s || f != nil {
			t.Errorf("%q: %q, %v", s, back, f)
		}
	}
	eachText(allBytes(), 1, check)
	eachText(allBytes(), 2, check)
	eachText(edgeBytes, 3, check)
	eachText(edgeBytes, 4, check)
}

func TestOrderIsThatOfRunes(t *testing.T) {
	lists := [][]rune{nil}
	for _, a := range edgeRunes {
		lists = append(lists, []rune{a})
		for _, b := range []rune{0, 0x7f, 0x7ff, 0xffff, 0x10ffff} {
			lists = append(lists, []rune{a, b})
		}
	}
	for _, a := range lists {
		for _, b := range lists {
			x, _ := utf.Encode(a)
			y, _ := utf.Encode(b)
			if cmp.Compare(x, y) != slices.Compare(a, b) {
				t.Errorf("%x and %x", a, b)
			}
		}
	}
}

// P1: whatever is handed in, the call ends.

func FuzzAnyText(f *testing.F) {
	f.Add("a\xe2\x82", 1)
	f.Add("", math.MinInt)
	f.Add("\xf4\x90\x80\x80", math.MaxInt)
	f.Fuzz(func(t *testing.T, s string, at int) {
		wantDecoded(t, s)
		r, width, e := utf.Next(s, at)
		if at < 0 || at >= len(s) {
			wantFault(t, s, e, at, api.ErrRange)
			return
		}
		wantR, wantWidth, named := oracle(s[at:])
		if r != wantR || width != wantWidth {
			t.Errorf("%q at %d: %x, %d", s, at, r, width)
		}
		wantFault(t, s, e, at, named)
	})
}
