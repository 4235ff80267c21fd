package pct_test

import (
	"encoding/hex"
	"errors"
	"regexp"
	"slices"
	"strings"
	"testing"
	"unicode/utf8"

	"eponym/api"
	"eponym/pct"
)

// letters are bytes that tell the cases of texts with escapes apart: the mark, digits and letters of both cases at the bounds of what is hexadecimal, and bytes of UTF-8's forms, also such that only escapes can tell.
var letters = []byte{'%', '2', '8', 'c', 'F', 'g', '/', 0xc3, 0xa9}

// keeps are texts of bytes that are kept: none, some, the mark, plain ones, twice the same, and bytes beyond 7f.
var keeps = []string{"", "/", "%", "/%", "a%2F", "//:", "az09-._~", "\x00\xff", "\u00e9"}

// wantFault fails unless the error is just a Fault of that named error at that place.
func wantFault(t *testing.T, what string, e error, place int, named error) {
	t.Helper()
	if named == nil {
		if e != nil {
			t.Errorf("%q: %v, want no error", what, e)
		}
		return
	}
	var f *api.Fault
	if !errors.As(e, &f) {
		t.Errorf("%q: %v is no Fault", what, e)
		return
	}
	if f.At != place || !errors.Is(e, named) {
		t.Errorf("%q: %q at %d, want %q at %d", what, f.Err, f.At, named, place)
	}
}

// eachText hands over all texts of at most so many letters.
func eachText(most int, do func(string)) {
	var grow func(string)
	grow = func(s string) {
		do(s)
		if len(s) == most {
			return
		}
		for _, b := range letters {
			grow(s + string([]byte{b}))
		}
	}
	grow("")
}

// allBytes is a text of each byte once.
func allBytes() string {
	var b []byte
	for i := range 256 {
		b = append(b, byte(i))
	}
	return string(b)
}

var anEscape = regexp.MustCompile(`(?s)^%[0-9A-Fa-f]{2}`)

// meant is what a text stands for, where its bytes stand, and what is at fault, by another way than the program's.
func meant(s string) (text string, places []int, at int, named error) {
	for i := 0; i < len(s); {
		rest := s[i:]
		switch {
		case rest[0] != '%':
			text += rest[:1]
			places = append(places, i)
			i++
		case len(rest) < 3:
			return "", nil, i, api.ErrEnd
		case !anEscape.MatchString(rest):
			return "", nil, i, api.ErrByte
		default:
			b, _ := hex.DecodeString(rest[1:3])
			text += string(b)
			places = append(places, i)
			i += 3
		}
	}
	return text, places, 0, nil
}

// P2.1: Plain.
func TestPlain(t *testing.T) {
	plain := regexp.MustCompile(`^[A-Za-z0-9._~-]$`)
	count := 0
	for i := range 256 {
		want := i < 0x80 && plain.MatchString(string(rune(i)))
		if pct.Plain(byte(i)) != want {
			t.Errorf("Plain(%q) is %v", byte(i), !want)
		}
		if want {
			count++
		}
	}
	if count != 26+26+10+4 {
		t.Errorf("%d plain bytes", count)
	}
}

// P2.1: Unescape.
func TestUnescape(t *testing.T) {
	for _, c := range []struct {
		s, want string
		at      int
		named   error
	}{
		{"", "", 0, nil},
		{"abc", "abc", 0, nil},
		{"a%2Fb", "a/b", 0, nil},
		{"a%2fb", "a/b", 0, nil},
		{"%aF%Fa%0f%F0", "\xaf\xfa\x0f\xf0", 0, nil},
		{"%00%ff%25", "\x00\xff%", 0, nil},
		{"%2541", "%41", 0, nil}, // what an escape stands for begins none
		{"%25%34%31", "%41", 0, nil},
		{"+ &=?#\x00\xff\xc3", "+ &=?#\x00\xff\xc3", 0, nil},
		{"%", "", 0, api.ErrEnd},
		{"%4", "", 0, api.ErrEnd},
		{"%z", "", 0, api.ErrEnd},
		{"%%", "", 0, api.ErrEnd},
		{"abc%", "", 3, api.ErrEnd},
		{"abc%4", "", 3, api.ErrEnd},
		{"%41%4", "", 3, api.ErrEnd},
		{"%zz", "", 0, api.ErrByte},
		{"%4g", "", 0, api.ErrByte},
		{"%g4", "", 0, api.ErrByte},
		{"%G0", "", 0, api.ErrByte},
		{"%0`", "", 0, api.ErrByte},
		{"%0@", "", 0, api.ErrByte},
		{"%0/", "", 0, api.ErrByte},
		{"%0:", "", 0, api.ErrByte},
		{"%:0", "", 0, api.ErrByte},
		{"%%41", "", 0, api.ErrByte},
		{"%4%41", "", 0, api.ErrByte},
		{"%\xff\xff", "", 0, api.ErrByte},
		{"a%41%zz%", "", 4, api.ErrByte}, // the first one, though others stand behind it
		{"a%zz%4", "", 1, api.ErrByte},
	} {
		got, e := pct.Unescape(c.s)
		if got != c.want {
			t.Errorf("Unescape(%q) is %q, want %q", c.s, got, c.want)
		}
		wantFault(t, "Unescape("+c.s+")", e, c.at, c.named)
	}
}

// P2.1: each pair of bytes behind a mark.
func TestEachPairBehindAMark(t *testing.T) {
	for i := range 256 * 256 {
		s := string([]byte{'%', byte(i >> 8), byte(i)})
		want, _, at, named := meant(s)
		got, e := pct.Unescape(s)
		if got != want {
			t.Errorf("Unescape(%q) is %q, want %q", s, got, want)
		}
		wantFault(t, s, e, at, named)
	}
}

// P2.1, P2.4: all short texts.
func TestShortTexts(t *testing.T) {
	eachText(6, func(s string) {
		want, places, at, named := meant(s)
		got, e := pct.Unescape(s)
		if got != want {
			t.Errorf("Unescape(%q) is %q, want %q", s, got, want)
		}
		wantFault(t, s, e, at, named)
		if l := pct.Places(s); !slices.Equal(l, places) {
			t.Errorf("Places(%q) is %v, want %v", s, l, places)
		}
	})
}

// P2.2: Escape.
func TestEscape(t *testing.T) {
	for _, c := range []struct{ s, keep, want string }{
		{"", "", ""},
		{"", "/%", ""},
		{"azAZ09-._~", "", "azAZ09-._~"},
		{"azAZ09-._~", "a-", "azAZ09-._~"},
		{"a b/\u00e9%", "/%", "a%20b/%C3%A9%25"},
		{"a/b", "", "a%2Fb"},
		{"a/b:c", "/", "a/b%3Ac"},
		{"a/b:c", ":/", "a/b:c"},
		{"%2F", "", "%252F"},
		{"%2F", "%2F", "%252F"},
		{"\x00\x0f\xf0\xff", "", "%00%0F%F0%FF"},
		{"\x00\xff", "\xff", "%00\xff"},
		{"\u00e9\xc3", "\u00e9", "\u00e9\xc3"}, // bytes are kept, not runes
		{"\xab\xcd\xef", "", "%AB%CD%EF"},
	} {
		if got := pct.Escape(c.s, c.keep); got != c.want {
			t.Errorf("Escape(%q, %q) is %q, want %q", c.s, c.keep, got, c.want)
		}
	}
}

// P2.2: each byte, with bytes that are kept.
func TestEscapeOfEachByte(t *testing.T) {
	for _, keep := range append(keeps, allBytes()) {
		for i := range 256 {
			s := string([]byte{byte(i)})
			want := "%" + strings.ToUpper(hex.EncodeToString([]byte{byte(i)}))
			if s != "%" && (pct.Plain(byte(i)) || strings.Contains(keep, s)) {
				want = s
			}
			if got := pct.Escape(s, keep); got != want {
				t.Errorf("Escape(%q, %q) is %q, want %q", s, keep, got, want)
			}
		}
	}
}

// P2.2: Canon.
func TestCanon(t *testing.T) {
	for _, c := range []struct {
		s, keep, want string
		at            int
		named         error
	}{
		{"", "", "", 0, nil},
		{"%61%2f%c3", "", "a%2F%C3", 0, nil},
		{"%61%2f/", "/", "a//", 0, nil},
		{"%7E~%2d", "", "~~-", 0, nil},
		{"%25", "%", "%25", 0, nil},
		{"a b", "", "a%20b", 0, nil},
		{"a%", "", "", 1, api.ErrEnd},
		{"a%4", "%4", "", 1, api.ErrEnd},
		{"a%4x", "%", "", 1, api.ErrByte},
	} {
		got, e := pct.Canon(c.s, c.keep)
		if got != c.want {
			t.Errorf("Canon(%q, %q) is %q, want %q", c.s, c.keep, got, c.want)
		}
		wantFault(t, "Canon("+c.s+")", e, c.at, c.named)
	}
}

// P2.2: Canon of all short texts is what Unescape and Escape make of them.
func TestCanonOfShortTexts(t *testing.T) {
	eachText(4, func(s string) {
		u, _, at, named := meant(s)
		for _, keep := range keeps {
			got, e := pct.Canon(s, keep)
			if want := pct.Escape(u, keep); got != want {
				t.Errorf("Canon(%q, %q) is %q, want %q", s, keep, got, want)
			}
			wantFault(t, s, e, at, named)
		}
	})
}

// P2.3: Split.
func TestSplit(t *testing.T) {
	for _, c := range []struct {
		s     string
		by    byte
		want  []string
		at    int
		named error
	}{
		{"", '/', []string{""}, 0, nil},
		{"/", '/', []string{"", ""}, 0, nil},
		{"a", '/', []string{"a"}, 0, nil},
		{"a%2Fb/c", '/', []string{"a/b", "c"}, 0, nil},
		{"a%2Fb//c", '/', []string{"a/b", "", "c"}, 0, nil},
		{"/a/", '/', []string{"", "a", ""}, 0, nil},
		{"%41=%3d&b", '&', []string{"A==", "b"}, 0, nil},
		{"agbGc", 'g', []string{"a", "bGc"}, 0, nil},
		{"agbGc", 'G', []string{"agb", "c"}, 0, nil},
		{"a.b%2Ec", '.', []string{"a", "b.c"}, 0, nil},
		{"a\xffb\xc3\xbfc", 0xff, []string{"a", "b\xc3\xbfc"}, 0, nil},
		{"a\xc3\xa9b", 0xa9, []string{"a\xc3", "b"}, 0, nil},
		{"a\x00%00", 0, []string{"a", "\x00"}, 0, nil},
		{"a/%4/b", '/', nil, 2, api.ErrEnd},
		{"a/%/41", '/', nil, 2, api.ErrEnd},
		{"a/b%4/1", '/', nil, 3, api.ErrEnd},
		{"a/b%zz/%", '/', nil, 3, api.ErrByte},
		{"%/%zz", '/', nil, 0, api.ErrEnd},
		{"//%4x/%", '/', nil, 2, api.ErrByte},
		{"a/b/%", '/', nil, 4, api.ErrEnd},
		{"%41/%42/%4", '/', nil, 8, api.ErrEnd},
		{"%4", 'g', nil, 0, api.ErrEnd},
	} {
		got, e := pct.Split(c.s, c.by)
		if !slices.Equal(got, c.want) {
			t.Errorf("Split(%q, %q) is %q, want %q", c.s, c.by, got, c.want)
		}
		wantFault(t, "Split("+c.s+")", e, c.at, c.named)
	}
}

// P2.3: which bytes part nothing, ahead of all other errors.
func TestSplitByEachByte(t *testing.T) {
	for i := range 256 {
		by := byte(i)
		refused := strings.IndexByte("%0123456789abcdefABCDEF", by) >= 0
		for _, s := range []string{"", "xyz", "%", "xyz%4", "xyz%zz", string([]byte{by})} {
			got, e := pct.Split(s, by)
			switch {
			case refused:
				wantFault(t, s, e, 0, api.ErrByte)
				if len(got) != 0 {
					t.Errorf("Split(%q, %q) is %q beside an error", s, by, got)
				}
			case s == string([]byte{by}):
				if !slices.Equal(got, []string{"", ""}) || e != nil {
					t.Errorf("Split(%q, %q) is %q, %v", s, by, got, e)
				}
			}
		}
	}
}

// P2.3: all short texts, part by part.
func TestSplitOfShortTexts(t *testing.T) {
	eachText(6, func(s string) {
		var want []string
		var named error
		from, at := 0, 0
		for part := range strings.SplitSeq(s, "/") {
			u, _, place, n := meant(part)
			if n != nil {
				want, at, named = nil, from+place, n
				break
			}
			want = append(want, u)
			from += len(part) + 1
		}
		got, e := pct.Split(s, '/')
		if !slices.Equal(got, want) {
			t.Errorf("Split(%q) is %q, want %q", s, got, want)
		}
		wantFault(t, s, e, at, named)
	})
}

// P2.4: Places.
func TestPlaces(t *testing.T) {
	for _, c := range []struct {
		s    string
		want []int
	}{
		{"", nil},
		{"abc", []int{0, 1, 2}},
		{"a%2Fb", []int{0, 1, 4}},
		{"%41%42c%43", []int{0, 3, 6, 7}},
		{"\u00e9%C3%A9", []int{0, 1, 2, 5}},
		{"abc%", nil},
		{"abc%4", nil},
		{"abc%4x%41", nil},
	} {
		if got := pct.Places(c.s); !slices.Equal(got, c.want) {
			t.Errorf("Places(%q) is %v, want %v", c.s, got, c.want)
		}
	}
}

// P2.4: Text.
func TestText(t *testing.T) {
	for _, c := range []struct {
		s     string
		want  []rune
		at    int
		named error
	}{
		{"", nil, 0, nil},
		{"a%C3%A9", []rune{'a', 0xe9}, 0, nil},
		{"\u00e9", []rune{0xe9}, 0, nil},
		{"\xc3%a9%E2\x82%AC", []rune{0xe9, 0x20ac}, 0, nil}, // forms partly escaped
		{"%F0%9F%98%80%00", []rune{0x1f600, 0}, 0, nil},
		{"%25", []rune{'%'}, 0, nil},
		{"a%", nil, 1, api.ErrEnd},
		{"a%zz", nil, 1, api.ErrByte},
		{"%C3%4", nil, 3, api.ErrEnd}, // escapes are at fault ahead of forms
		{"\xff%zz", nil, 1, api.ErrByte},
		{"a%41%C3b", nil, 4, api.ErrByte},
		{"a%C3", nil, 1, api.ErrEnd},
		{"%41%42\xc3", nil, 6, api.ErrEnd},
		{"%41%42\xe2%82", nil, 6, api.ErrEnd},
		{"%41%ff", nil, 3, api.ErrByte},
		{"%41%ed%a0%80", nil, 3, api.ErrByte},
		{"%C0%80", nil, 0, api.ErrByte},
		{"%C3%A9%A9", nil, 6, api.ErrByte},
		{"%f4%90%80%80", nil, 0, api.ErrByte},
	} {
		got, e := pct.Text(c.s)
		if !slices.Equal(got, c.want) {
			t.Errorf("Text(%q) is %x, want %x", c.s, got, c.want)
		}
		wantFault(t, "Text("+c.s+")", e, c.at, c.named)
	}
}

// textOf is what Text is to answer, as the library's UTF-8 has it.
func textOf(s string) (l []rune, at int, named error) {
	u, places, at, named := meant(s)
	if named != nil {
		return nil, at, named
	}
	for i := 0; i < len(u); {
		r, width := utf8.DecodeRuneInString(u[i:])
		if r == utf8.RuneError && width == 1 {
			if utf8.FullRuneInString(u[i:]) {
				return nil, places[i], api.ErrByte
			}
			return nil, places[i], api.ErrEnd
		}
		l = append(l, r)
		i += width
	}
	return l, 0, nil
}

// P2.4: all short texts, and such whose bytes are escaped here and there.
func TestTextOfShortTexts(t *testing.T) {
	look := func(s string) {
		want, at, named := textOf(s)
		got, e := pct.Text(s)
		if !slices.Equal(got, want) {
			t.Errorf("Text(%q) is %x, want %x", s, got, want)
		}
		wantFault(t, s, e, at, named)
	}
	eachText(6, look)
	bits := []string{"a", "%C3", "\xc3", "%a9", "\xa9", "%E2", "%82", "%f0", "%41"}
	for _, a := range bits {
		for _, b := range bits {
			for _, c := range bits {
				for _, d := range bits {
					look(a + b + c + d)
				}
			}
		}
	}
}

// P2.5: what was escaped is unescaped as it was.
func TestEscapedAndBack(t *testing.T) {
	look := func(s string) {
		for _, keep := range append(keeps, allBytes()) {
			got, e := pct.Unescape(pct.Escape(s, keep))
			if got != s || e != nil {
				t.Errorf("%q, kept %q: %q, %v", s, keep, got, e)
			}
		}
	}
	look(allBytes())
	eachText(4, look)
}

// P2.5: what is canonical stays so.
func TestCanonicalStays(t *testing.T) {
	eachText(4, func(s string) {
		for _, keep := range keeps {
			c, e := pct.Canon(s, keep)
			if e != nil {
				continue
			}
			if again, e := pct.Canon(c, keep); again != c || e != nil {
				t.Errorf("%q, kept %q: %q, then %q, %v", s, keep, c, again, e)
			}
		}
	})
}

// P2.5: parts that were escaped and put together are split as they were.
func TestSplitAsTheyWere(t *testing.T) {
	all := allBytes()
	for i := range 256 {
		by := byte(i)
		if pct.Plain(by) || by == '%' {
			continue // a mark is not plain, but parts nothing (P2.3)
		}
		own := string([]byte{by})
		for _, parts := range [][]string{
			{""}, {"", ""}, {"a"}, {all}, {all, "", all}, {own}, {own, own}, {"%", "4", "1"}, {"%41", "%"}, {"", own + own, "", "a" + own},
		} {
			var escaped []string
			for _, p := range parts {
				escaped = append(escaped, pct.Escape(p, ""))
			}
			got, e := pct.Split(strings.Join(escaped, own), by)
			if !slices.Equal(got, parts) || e != nil {
				t.Errorf("%q by %q: %q, %v", parts, by, got, e)
			}
		}
	}
}

// R4: no list that is answered is seen in another.
func TestAnswersAreNew(t *testing.T) {
	const s = "a%2Fb/c"
	parts, _ := pct.Split(s, '/')
	runes, _ := pct.Text(s)
	places := pct.Places(s)
	parts[0], places[0], runes[0] = "x", 99, 'x'
	again, _ := pct.Split(s, '/')
	text, _ := pct.Text(s)
	if !slices.Equal(again, []string{"a/b", "c"}) || !slices.Equal(pct.Places(s), []int{0, 1, 4, 5, 6}) || string(text) != "a/b/c" {
		t.Error("an answer was changed by another one")
	}
}

// P1: every call ends and none panics, at long texts too.
func TestLongTexts(t *testing.T) {
	long := strings.Repeat("a%2F/\xff%", 1<<16)
	if _, e := pct.Unescape(long); e == nil {
		t.Error("no error")
	}
	if l, e := pct.Split(strings.Repeat("/", 1<<16), '/'); len(l) != 1<<16+1 || e != nil {
		t.Errorf("%d parts, %v", len(l), e)
	}
	whole := pct.Escape(long, "")
	if u, e := pct.Unescape(whole); u != long || e != nil {
		t.Error("not as it was")
	}
	if n := len(pct.Places(whole)); n != len(long) {
		t.Errorf("%d places", n)
	}
}

// P2.1 to P2.5 with P1, at whatever comes.
func FuzzTexts(f *testing.F) {
	for _, s := range []string{"", "a%2Fb/c", "%4", "%zz", "a%C3", "%41%C3b"} {
		f.Add(s, "/", byte('/'))
	}
	f.Fuzz(func(t *testing.T, s, keep string, by byte) {
		want, places, at, named := meant(s)
		got, e := pct.Unescape(s)
		if got != want || !slices.Equal(pct.Places(s), places) {
			t.Errorf("Unescape(%q) is %q", s, got)
		}
		wantFault(t, s, e, at, named)
		runes, at, named := textOf(s)
		l, e := pct.Text(s)
		if !slices.Equal(l, runes) {
			t.Errorf("Text(%q) is %x", s, l)
		}
		wantFault(t, s, e, at, named)
		if u, e := pct.Unescape(pct.Escape(s, keep)); u != s || e != nil {
			t.Errorf("%q was escaped, and is %q, %v", s, u, e)
		}
		if parts, e := pct.Split(s, by); e == nil && len(parts) != strings.Count(s, string([]byte{by}))+1 {
			t.Errorf("Split(%q, %q) is %q", s, by, parts)
		}
	})
}
