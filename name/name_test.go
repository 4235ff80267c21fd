package name_test

import (
	"bytes"
	"errors"
	"fmt"
	"math"
	"math/rand"
	"slices"
	"strings"
	"testing"

	"eponym/api"
	"eponym/bidi"
	"eponym/label"
	"eponym/name"
	"eponym/puny"
	"eponym/utf"
)

// wantFault fails unless the error is just a Fault of that named error at that place.
func wantFault(t *testing.T, what string, e error, place int, named error) {
	t.Helper()
	if named == nil {
		if e != nil {
			t.Errorf("%s: %s, want no error", what, told(e))
		}
		return
	}
	var f *api.Fault
	if !errors.As(e, &f) {
		t.Errorf("%s: %v is no Fault, want %q at %d", what, e, named, place)
		return
	}
	if f.At != place || !errors.Is(e, named) {
		t.Errorf("%s: %q at %d, want %q at %d", what, f.Err, f.At, named, place)
	}
}

// told is an error as a text.
func told(e error) string {
	var f *api.Fault
	if errors.As(e, &f) {
		return fmt.Sprintf("%v at %d", f.Err, f.At)
	}
	return fmt.Sprint(e)
}

// one is a range of one rune.
func one(r rune, value int) api.Range { return api.Range{Lo: r, Hi: r, Value: value} }

// span is a range of runes.
func span(lo, hi rune, value int) api.Range { return api.Range{Lo: lo, Hi: hi, Value: value} }

// turning are pairs that turn the runes from one to another to those so much above.
func turning(lo, hi rune, by rune) (l []api.Pair) {
	for r := lo; r <= hi; r++ {
		l = append(l, api.Pair{From: r, To: r + by})
	}
	return l
}

// tables are some of what Unicode tells of runes, and a letter (2ff00) that has the direction ON.
func tables() api.Tables {
	return api.Tables{
		Norm: api.Norm{
			Rows: []api.Row{
				{From: 0xc9, To: []rune{'E', 0x301}}, {From: 0xdc, To: []rune{'U', 0x308}}, {From: 0xe9, To: []rune{'e', 0x301}}, {From: 0xfc, To: []rune{'u', 0x308}},
				{From: 0x958, To: []rune{0x915, 0x93c}}, {From: 0x212a, To: []rune{'K'}},
			},
			Classes:  []api.Range{span(0x300, 0x314, 230), one(0x323, 220), one(0x93c, 7)},
			Excluded: []rune{0x958},
		},
		Props: api.Props{
			Exceptions: []api.Range{one(0xb7, api.ContextO), one(0xdf, api.Pvalid), span(0x660, 0x669, api.ContextO)},
			Letters: []api.Range{
				span('a', 'z', 0), span(0xc0, 0xd6, 0), span(0xd8, 0xf6, 0), span(0xf8, 0xff, 0), span(0x300, 0x314, 0), one(0x323, 0), span(0x3b1, 0x3c9, 0),
				span(0x5d0, 0x5ea, 0), span(0x620, 0x64a, 0), span(0x915, 0x94d, 0), span(0x4e00, 0x9fff, 0), one(0x2ff00, 0),
			},
			Directions: []api.Range{
				one('-', api.DirES), span('0', '9', api.DirEN), span(0x300, 0x314, api.DirNSM), one(0x323, api.DirNSM), span(0x5d0, 0x5ea, api.DirR),
				span(0x620, 0x64a, api.DirAL), span(0x660, 0x669, api.DirAN), one(0x2ff00, api.DirON),
			},
			Marks: []api.Range{span(0x300, 0x314, 0), one(0x323, 0), one(0x93c, 0)},
		},
		Lower: slices.Concat(turning(0xc0, 0xd6, 0x20), turning(0xd8, 0xde, 0x20), []api.Pair{{From: 0x212a, To: 'k'}}, turning(0xff21, 0xff3a, 'a'-0xff21)),
	}
}

// dotty are tables that turn a dot to a letter, and other runes to dots.
func dotty() api.Tables {
	return api.Tables{
		Norm:  api.Norm{Rows: []api.Row{{From: 0x1fef, To: []rune{'.'}}, {From: 0x3002, To: []rune{'c', 0x301}}}},
		Props: api.Props{Exceptions: []api.Range{span(0, api.MaxRune, api.Pvalid)}},
		Lower: []api.Pair{{From: 0x2024, To: '.'}, {From: 0x2025, To: 0xff61}, {From: 0xff0e, To: 'b'}},
	}
}

// The tests' own tables are fit, so that Canon promises something of them.
func TestTablesAreFit(t *testing.T) {
	for _, x := range []api.Tables{{}, tables(), dotty()} {
		wantFault(t, "fit tables", label.Fit(x), 0, nil)
	}
}

// textsOf are what stands between a well-formed text's dots, all of them turned to one first.
func textsOf(s string) []string {
	l := strings.Split(strings.NewReplacer("\u3002", ".", "\uff0e", ".", "\uff61", ".").Replace(s), ".")
	if len(l) > 1 && l[len(l)-1] == "" {
		l = l[:len(l)-1]
	}
	return l
}

// labelsOf are the plain forms that texts mean, and the labels of these.
func labelsOf(x api.Tables, texts []string) (forms []string, l [][]rune, place int, named error) {
	for i, s := range texts {
		form, e := label.Canon(x, s)
		var f *api.Fault
		switch {
		case s == "":
			return nil, nil, i, api.ErrEmpty
		case errors.As(e, &f):
			return nil, nil, i, f.Err
		}
		forms, l = append(forms, form), append(l, runesOf(form))
	}
	return forms, l, 0, nil
}

// runesOf are the runes of a plain form that may be one.
func runesOf(form string) []rune {
	code, coded := strings.CutPrefix(form, "xn--")
	if !coded {
		return []rune(form)
	}
	l, _ := puny.Decode(code)
	return l
}

// meantOf is what Canon is to answer of a text, by the chapter's words.
func meantOf(x api.Tables, s string) (canonical string, place int, named error) {
	_, e := utf.Decode(s)
	var f *api.Fault
	if errors.As(e, &f) {
		return "", f.At, f.Err
	}
	if slices.Contains([]string{"", ".", "\u3002", "\uff0e", "\uff61"}, s) {
		return "", 0, api.ErrEmpty
	}
	forms, l, place, named := labelsOf(x, textsOf(s))
	if named != nil {
		return "", place, named
	}
	mixed, broken := false, -1
	for i := len(l) - 1; i >= 0; i-- {
		mixed = mixed || bidi.Right(x.Props, l[i])
		if bidi.Label(x.Props, l[i]) != nil {
			broken = i
		}
	}
	bytes := len(forms) - 1
	for _, form := range forms {
		bytes += len(form)
	}
	switch {
	case mixed && broken >= 0:
		return "", broken, api.ErrBidi
	case bytes > 253:
		return "", 0, api.ErrLong
	}
	canonical = forms[0]
	for _, form := range forms[1:] {
		canonical += "." + form
	}
	return canonical, 0, nil
}

// wantMeant fails unless Canon, and Own, say of a text what the chapter's words do, and what is canonical stays so.
func wantMeant(t *testing.T, x api.Tables, s string) {
	t.Helper()
	want, place, named := meantOf(x, s)
	got, e := name.Canon(x, s)
	wantFault(t, fmt.Sprintf("Canon(%q)", s), e, place, named)
	if got != want {
		t.Errorf("Canon(%q): %q, want %q", s, got, want)
	}
	if named == nil {
		wantCanonical(t, x, want)
	}
	if named != nil || want != s {
		own, e := name.Own(x, s)
		wantFault(t, fmt.Sprintf("Own(%q)", s), e, 0, api.ErrForm)
		if own != "" {
			t.Errorf("Own(%q): %q beside an error", s, own)
		}
	}
}

// wantCanonical fails unless a text is a canonical name: it stays so, and so is its own form's Canon. P11.4.
func wantCanonical(t *testing.T, x api.Tables, s string) {
	t.Helper()
	if again, e := name.Canon(x, s); again != s || e != nil {
		t.Errorf("Canon(%q): %q, %s", s, again, told(e))
	}
	var want []rune
	for i, form := range strings.Split(s, ".") {
		if i > 0 {
			want = append(want, '.')
		}
		want = append(want, runesOf(form)...)
	}
	own, e := name.Own(x, s)
	if own != string(want) || e != nil {
		t.Errorf("Own(%q): %q, %s, want %q", s, own, told(e), string(want))
	}
	if again, e := name.Canon(x, own); again != s || e != nil {
		t.Errorf("Canon(%q), the own form of %q: %q, %s", own, s, again, told(e))
	}
}

// canonCase is a text, and what Canon is to say of it.
type canonCase struct {
	s, want string
	place   int
	named   error
}

// wantCanon fails unless that is said of texts, by the tests' own words too.
func wantCanon(t *testing.T, x api.Tables, cases ...canonCase) {
	t.Helper()
	for _, c := range cases {
		if canonical, place, named := meantOf(x, c.s); canonical != c.want || place != c.place || named != c.named {
			t.Errorf("%q: by the tests' own words %q, %v at %d, want %q, %v at %d", c.s, canonical, named, place, c.want, c.named, c.place)
		}
		got, e := name.Canon(x, c.s)
		wantFault(t, fmt.Sprintf("Canon(%q)", c.s), e, c.place, c.named)
		if got != c.want {
			t.Errorf("Canon(%q): %q, want %q", c.s, got, c.want)
		}
		wantMeant(t, x, c.s)
	}
}

// The chapter's examples.
func TestExamples(t *testing.T) {
	for _, x := range []api.Tables{{}, tables()} {
		wantCanon(t, x, canonCase{"Example.COM.", "example.com", 0, nil}, canonCase{"a..b", "", 1, api.ErrEmpty})
	}
	if up := slices.Collect(name.Up("a.b.c")); !slices.Equal(up, []string{"a.b.c", "b.c", "c"}) {
		t.Errorf("Up: %q", up)
	}
}

// dots are the four dots.
func dots() []string { return []string{".", "\u3002", "\uff0e", "\uff61"} }

// P11.1: the empty text, and dots alone.
func TestCanonOfDots(t *testing.T) {
	for _, x := range []api.Tables{{}, tables(), dotty()} {
		wantCanon(t, x, canonCase{"", "", 0, api.ErrEmpty})
		for _, d := range dots() {
			wantCanon(t, x, canonCase{d, "", 0, api.ErrEmpty})
			for _, other := range dots() {
				wantCanon(t, x,
					canonCase{d + other, "", 0, api.ErrEmpty}, canonCase{d + other + d, "", 0, api.ErrEmpty}, canonCase{"a" + d + other, "", 1, api.ErrEmpty},
					canonCase{"a" + d + "b" + other, "a.b", 0, nil}, canonCase{"a" + d + "b" + other + d, "", 2, api.ErrEmpty}, canonCase{d + "a" + other, "", 0, api.ErrEmpty},
					canonCase{"a" + d + "b" + other + "c", "a.b.c", 0, nil}, canonCase{"a" + d + other + "b", "", 1, api.ErrEmpty}, canonCase{"a" + d + other + d + "b", "", 1, api.ErrEmpty},
				)
			}
			wantCanon(t, x, canonCase{"a" + d, "a", 0, nil}, canonCase{d + "a", "", 0, api.ErrEmpty}, canonCase{"a" + d + "b", "a.b", 0, nil}, canonCase{"A" + d + "1-B" + d, "a.1-b", 0, nil})
		}
	}
}

// P11.1: a name may have one label, or many.
func TestCanonOfManyLabels(t *testing.T) {
	x := tables()
	for many := 1; many <= 127; many++ {
		s := strings.TrimSuffix(strings.Repeat("A.", many), ".")
		wantCanon(t, x, canonCase{s, strings.ToLower(s), 0, nil}, canonCase{s + ".", strings.ToLower(s), 0, nil}, canonCase{s + "..", "", many, api.ErrEmpty}, canonCase{s + "._.a", "", many, api.ErrClass})
	}
	wantCanon(t, x, canonCase{strings.Repeat("a.", 127), strings.Repeat("a.", 126) + "a", 0, nil}, canonCase{strings.Repeat("a.", 128), "", 0, api.ErrLong})
}

// P11.1: runes that aren't dots, though they look alike, or stand beside one.
func TestCanonOfOtherDots(t *testing.T) {
	x := tables()
	for _, r := range []rune{',', '/', '-', 0xb7, 0x2024, 0x2025, 0x2026, 0x3001, 0x3003, 0x30fb, 0xfe52, 0xff0c, 0xff0d, 0xff0f, 0xff60, 0xff62, 0x02e, 0xe02e} {
		s := "a" + string(r) + "b"
		if len(textsOf(s)) > 1 != (r == 0x2e) {
			t.Errorf("%q has %d labels", s, len(textsOf(s)))
		}
		wantMeant(t, x, s)
		wantMeant(t, x, "c."+s)
	}
	for r := rune(0); r < 0x10000; r++ {
		if utf.Right(r) {
			_, e := name.Canon(x, "a"+string(r)+"b._")
			var f *api.Fault
			if dot := strings.Contains(".\u3002\uff0e\uff61", string(r)); !errors.As(e, &f) || (f.At == 2) != dot {
				t.Errorf("%x: %s", r, told(e))
			}
		}
	}
}

// P11.1: dots are told ahead of turning small, so that tables neither make nor take some.
func TestCanonOfTurnedDots(t *testing.T) {
	wantCanon(t, dotty(),
		canonCase{"a\uff0ea", "a.a", 0, nil}, canonCase{"a\u3002a", "a.a", 0, nil}, canonCase{"\uff0e", "", 0, api.ErrEmpty}, canonCase{"a.\u3002", "", 1, api.ErrEmpty},
		canonCase{"a\u2024a", "", 0, api.ErrClass}, canonCase{"c.a\u2025a", "", 1, api.ErrClass}, canonCase{"a\u1fefa", "", 0, api.ErrClass}, canonCase{"a\u2024", "", 0, api.ErrClass}, canonCase{"\u2024", "", 0, api.ErrClass},
	)
}

// P11.1: texts that are no UTF-8, whatever else is at fault.
func TestCanonOfBrokenTexts(t *testing.T) {
	for _, x := range []api.Tables{{}, tables()} {
		wantCanon(t, x,
			canonCase{"\xff", "", 0, api.ErrByte}, canonCase{"a\xff", "", 1, api.ErrByte}, canonCase{"a.b\xff", "", 3, api.ErrByte}, canonCase{"a.\xc3", "", 2, api.ErrEnd}, canonCase{"a.\xc3.b", "", 2, api.ErrByte},
			canonCase{"\x80.a", "", 0, api.ErrByte}, canonCase{"a.\xed\xa0\x80", "", 2, api.ErrByte}, canonCase{"a.b.c\xe3\x80", "", 5, api.ErrEnd}, canonCase{"a\xe3\x80.b", "", 1, api.ErrByte}, canonCase{"a\u3002\xc0\x80", "", 4, api.ErrByte},
			canonCase{"..\xff", "", 2, api.ErrByte}, canonCase{".\xff", "", 1, api.ErrByte}, canonCase{"_.\xff", "", 2, api.ErrByte}, canonCase{"_.-a.\xf4\x90\x80\x80", "", 5, api.ErrByte}, canonCase{"xn--.a.\xf0\x9f", "", 7, api.ErrEnd},
			canonCase{"\xff.\xfe", "", 0, api.ErrByte}, canonCase{strings.Repeat("a", 300) + "\xff", "", 300, api.ErrByte}, canonCase{strings.Repeat("a.", 200) + "\xe3", "", 400, api.ErrEnd},
		)
	}
}

// coded is a label's Punycode behind the prefix, whether the label may be or not.
func coded(l ...rune) string {
	code, _ := puny.Encode(l)
	return "xn--" + code
}

// faulty are texts that mean no label, by the errors that layer 10 tells of them.
func faulty() map[error][]string {
	return map[error][]string{
		api.ErrHyphen:  {"-a", "a-", "ab--c", "-", "xn--\u00e9", "xn-"},
		api.ErrNorm:    {coded('e', 0x301), strings.ToUpper(coded('a', 'u', 0x308))},
		api.ErrClass:   {"_", "a_", "a b", "\u0301a", "\u2603", "\u0640\u0600", "xn--a", "\x00"},
		api.ErrContext: {"a\u00b7l", "\u00b7", coded('a', 0xb7)},
		api.ErrBidi:    {"a\u05d0", "\u05d0a", "1\u05d0", "\u0627\u06601", coded('a', 0x5d0)},
		api.ErrLong:    {strings.Repeat("a", 64), strings.Repeat("\u00e9", 100), "xn--" + strings.Repeat("a", 121), "xn--99999999"},
		api.ErrPuny:    {"xn--", "XN--", "xn--abc-", "xn---", "xn--!"},
		api.ErrEnd:     {"xn--kv", "XN--KV", "xn--9"},
		api.ErrRange:   {"xn--" + puny.Digits(0xd800-0x80, 72), "xn--" + puny.Digits(0x110000-0x80, 72)},
	}
}

// P11.1: a label at fault, of each of layer 10's errors, is told at its number.
func TestCanonOfWrongLabels(t *testing.T) {
	x := tables()
	for named, texts := range faulty() {
		for _, s := range texts {
			wantCanon(t, x,
				canonCase{s, "", 0, named}, canonCase{s + ".", "", 0, named}, canonCase{s + ".b", "", 0, named}, canonCase{"b." + s, "", 1, named}, canonCase{"b." + s + ".c", "", 1, named},
				canonCase{"a\u3002B\uff61xn--9ca\uff0e" + s, "", 3, named}, canonCase{strings.Repeat("a.", 100) + s, "", 100, named}, canonCase{strings.Repeat("a.", 300) + s, "", 300, named},
				canonCase{s + "..", "", 0, named}, canonCase{"." + s, "", 0, api.ErrEmpty}, canonCase{"a.." + s, "", 1, api.ErrEmpty}, canonCase{"a." + s + "..b", "", 1, named},
			)
		}
	}
}

// P11.1: of two labels that are at fault the first one is told, whichever errors they have.
func TestCanonOfTwoWrongLabels(t *testing.T) {
	x := tables()
	for first, some := range faulty() {
		for _, others := range faulty() {
			for _, s := range some {
				for _, other := range others {
					wantCanon(t, x, canonCase{s + "." + other, "", 0, first}, canonCase{"a." + s + ".b." + other, "", 1, first})
				}
			}
		}
	}
}

// P11.1: mixed names of which a label breaks a rule, and names that break one but aren't mixed.
func TestCanonOfMixedNames(t *testing.T) {
	x := tables()
	wantCanon(t, x,
		canonCase{"1.\u05d0", "", 0, api.ErrBidi}, canonCase{"\u05d0.1", "", 1, api.ErrBidi}, canonCase{"\u05d0.a.1b.2c", "", 2, api.ErrBidi}, canonCase{"a.1.\u05d0.2", "", 1, api.ErrBidi},
		canonCase{"a.\u05d0.1", "", 2, api.ErrBidi}, canonCase{"xn--4db.1", "", 1, api.ErrBidi}, canonCase{"1.XN--4DB.", "", 0, api.ErrBidi}, canonCase{"a\U0002ff00.\u05d0", "", 0, api.ErrBidi},
		canonCase{"\u05d0.a\U0002ff00.1", "", 1, api.ErrBidi}, canonCase{"\u0627.\U0002ff00", "", 1, api.ErrBidi}, canonCase{"a.1\u3002\u0627", "", 1, api.ErrBidi}, canonCase{"b.\u05d0.c.2.\u05d1.", "", 3, api.ErrBidi},
		canonCase{"a.\u05d0", "a.xn--4db", 0, nil}, canonCase{"\u05d0.a", "xn--4db.a", 0, nil}, canonCase{"\u05d0.\u05d11", "xn--4db.xn--1-1hc", 0, nil}, canonCase{"A1.\u05d0\u05d1.b", "a1.xn--4dbc.b", 0, nil},
		canonCase{"\u05d0", "xn--4db", 0, nil}, canonCase{"1", "1", 0, nil}, canonCase{"1.2.3", "1.2.3", 0, nil}, canonCase{"1a.\u00e9", "1a.xn--9ca", 0, nil}, canonCase{"a.1.xn--9ca", "a.1.xn--9ca", 0, nil},
		canonCase{"\U0002ff00.a\U0002ff00.b", "xn--og4n.xn--a-3m43a.b", 0, nil},
	)
	// What is of the right by its own alone is layer 10's, at its own number.
	wantCanon(t, x, canonCase{"1.\u05d0a", "", 1, api.ErrBidi}, canonCase{"1.\u05d0.\u05d1b", "", 2, api.ErrBidi})
}

// long is a name of labels of that many bytes each.
func long(bytes ...int) string {
	var l []string
	for i, n := range bytes {
		l = append(l, strings.Repeat(string(rune('a'+i%26)), n))
	}
	return strings.Join(l, ".")
}

// P11.1: canonical names of 253 and of 254 bytes, however long the text is.
func TestCanonOfLongNames(t *testing.T) {
	for _, x := range []api.Tables{{}, tables()} {
		most, more := long(63, 63, 63, 61), long(63, 63, 63, 62)
		if len(most) != api.MaxName || len(more) != api.MaxName+1 {
			t.Fatal("not as long as is said")
		}
		wantCanon(t, x,
			canonCase{most, most, 0, nil}, canonCase{most + ".", most, 0, nil}, canonCase{strings.ToUpper(most) + "\u3002", most, 0, nil}, canonCase{strings.ReplaceAll(most, ".", "\uff61"), most, 0, nil},
			canonCase{more, "", 0, api.ErrLong}, canonCase{more + ".", "", 0, api.ErrLong}, canonCase{strings.ReplaceAll(more, ".", "\uff0e"), "", 0, api.ErrLong}, canonCase{more + "..", "", 4, api.ErrEmpty},
			canonCase{long(63, 63, 63, 63), "", 0, api.ErrLong}, canonCase{long(63, 63, 63, 60), long(63, 63, 63, 60), 0, nil}, canonCase{long(63, 63, 63, 61) + ".a", "", 0, api.ErrLong}, canonCase{long(63, 63, 63, 59) + ".a", long(63, 63, 63, 59) + ".a", 0, nil},
			canonCase{long(63, 63, 63, 64), "", 3, api.ErrLong}, canonCase{long(253), "", 0, api.ErrLong}, canonCase{long(64, 63, 63, 60), "", 0, api.ErrLong}, canonCase{long(63, 253), "", 1, api.ErrLong},
		)
	}
	x := tables()
	ends := strings.Repeat("\u00c9.", 31)
	canonical := strings.Repeat("xn--9ca.", 31)
	wantCanon(t, x, canonCase{ends + "abcde", canonical + "abcde", 0, nil}, canonCase{ends + "abcdef", "", 0, api.ErrLong}, canonCase{ends + "\u00e9", "", 0, api.ErrLong}, canonCase{ends, strings.TrimSuffix(canonical, "."), 0, nil})
	// One of 253 bytes whose own form has many more, and one of 254 whose text has fewer.
	han := strings.Repeat("\u4e2d", 55)
	form, e := label.Canon(x, han)
	if e != nil || 4*len(form)+3 < 190 {
		t.Fatalf("%q, %s", form, told(e))
	}
	rest := strings.Repeat("a", 253-4*len(form)-4)
	wantCanon(t, x, canonCase{strings.Repeat(han+".", 4) + rest, strings.Repeat(form+".", 4) + rest, 0, nil}, canonCase{strings.Repeat(han+".", 4) + rest + "a", "", 0, api.ErrLong})
}

// P11.1: several faults at once, of which the one that the chapter names first is told.
func TestCanonOfSeveralFaults(t *testing.T) {
	x := tables()
	for choice := range 16 {
		s, labels := "", 0
		place, named := 0, error(nil)
		add := func(text string, many int) { s, labels = s+text, labels+many }
		if choice&1 > 0 {
			place, named = 0, api.ErrLong
			add(strings.Repeat("abcdefg.", 40), 40)
		}
		if choice&2 > 0 {
			place, named = labels+1, api.ErrBidi
			add("a.1.\u05d0.", 3)
		}
		if choice&4 > 0 {
			place, named = labels, api.ErrHyphen
			add("-a.b..", 3)
		}
		if choice&8 > 0 {
			place, named = len(s)+1, api.ErrByte
			add("c\xff.", 1)
		}
		canonical := ""
		if add("z", 1); named == nil {
			canonical = "z"
		}
		wantCanon(t, x, canonCase{s, canonical, place, named})
	}
	// The empty label counts as layer 10's error does: the first one is told.
	wantCanon(t, x,
		canonCase{"-a..b", "", 0, api.ErrHyphen}, canonCase{"a..-b", "", 1, api.ErrEmpty}, canonCase{"1.\u05d0..", "", 2, api.ErrEmpty}, canonCase{"1.\u05d0._", "", 2, api.ErrClass},
		canonCase{strings.Repeat("abcdefg.", 40) + ".", "", 40, api.ErrEmpty}, canonCase{strings.Repeat("abcdefg.", 40) + "1.\u05d0", "", 40, api.ErrBidi}, canonCase{".1.\u05d0", "", 0, api.ErrEmpty},
	)
}

// P11.1: texts that mean one name, however they are spelled, and texts that mean others.
func TestCanonOfOneName(t *testing.T) {
	groups := map[string][]string{
		"example.com":             {"example.com", "Example.COM", "EXAMPLE.COM.", "example\u3002com", "eXample\uff0ecom\uff61", "\uff25xample.\uff23OM"},
		"xn--bcher-kva.de":        {"b\u00fccher.de", "B\u00dcCHER.DE", "bu\u0308cher.de.", "BU\u0308CHER\u3002de", "XN--BCHER-KVA.de", "xn--bcher-kva.De", "Xn--Bcher-Kva\uff61DE\uff0e", "bU\u0308cher.\uff24e"},
		"k":                       {"k", "K", "\u212a", "K.", "\uff2b"},
		"www.xn--9ca.xn--4db.com": {"www.\u00e9.\u05d0.com", "WWW.E\u0301.xn--4db.com.", "www.xn--9ca.\u05d0.com", "www\u3002XN--9CA\uff0eXN--4DB\uff61COM", "www.\u00c9.\u05d0.Com"},
		"xn--11b2f.xn--11b2f":     {"\u0958.\u0958", "\u0915\u093c.\u0958", "xn--11b2f.\u0915\u093c"},
		"e.a":                     {"e.a", "E.A."}, "xn--9ca.a": {"\u00e9.a"}, "a.e": {"a.e"}, "a": {"a", "A."}, "a.a": {"a.a", "A.A"}, "a-a": {"a-a"}, "xn--strae-oqa.de": {"stra\u00dfe.de"}, "strasse.de": {"strasse.de"},
	}
	for canonical, texts := range groups {
		for _, s := range texts {
			wantCanon(t, tables(), canonCase{s, canonical, 0, nil})
		}
	}
}

// eachOf hands on all rows of up to so many of what is told, the same list each time.
func eachOf[T any](telling []T, most int, do func([]T)) {
	var grow func(l []T)
	grow = func(l []T) {
		do(l)
		if len(l) == most {
			return
		}
		for _, x := range telling {
			grow(append(l, x))
		}
	}
	grow(make([]T, 0, most))
}

// P11.1, P11.2, P11.4: all short texts of telling parts.
func TestShortTexts(t *testing.T) {
	x := tables()
	eachOf([]string{"a", "E\u0301", "1", "\u05d0", ".", "\u3002", "_", "xn--9ca", "XN--4DB", "\U0002ff00", "\xff", "\xc3"}, 4, func(parts []string) { wantMeant(t, x, strings.Join(parts, "")) })
	eachOf([]string{"a", "1", "\u05d0", ".", "-"}, 6, func(parts []string) { wantMeant(t, x, strings.Join(parts, "")) })
	eachOf([]string{"a", ".", "\u2024", "\u3002", "\uff0e", "\u1fef", "b", "\u0301"}, 4, func(parts []string) { wantMeant(t, dotty(), strings.Join(parts, "")) })
}

// P11.2: the own forms of canonical names.
func TestOwn(t *testing.T) {
	x := tables()
	for _, c := range []struct{ s, want string }{
		{"a", "a"}, {"example.com", "example.com"}, {"1.2.3", "1.2.3"}, {"a--b.c-d", "a--b.c-d"}, {"xn--9ca", "\u00e9"}, {"xn--bcher-kva.xn--9ca", "b\u00fccher.\u00e9"},
		{"xn--bcher-kva.de", "b\u00fccher.de"}, {"www.xn--9ca.com", "www.\u00e9.com"}, {"a.xn--4db", "a.\u05d0"}, {"xn--4db.xn--1-1hc.a", "\u05d0.\u05d11.a"}, {"xn--fiq228c.a.xn--mxa", "\u4e2d\u6587.a.\u03b1"},
		{"xn--11b2f", "\u0915\u093c"}, {long(63, 63, 63, 61), long(63, 63, 63, 61)}, {strings.Repeat("xn--9ca.", 31) + "abcde", strings.Repeat("\u00e9.", 31) + "abcde"},
	} {
		own, e := name.Own(x, c.s)
		if own != c.want || e != nil {
			t.Errorf("Own(%q): %q, %s, want %q", c.s, own, told(e), c.want)
		}
		wantCanonical(t, x, c.s)
	}
}

// P11.2: texts that aren't canonical, or mean no name at all.
func TestOwnOfOthers(t *testing.T) {
	x := tables()
	for _, s := range []string{
		"A", "a.", "a.B", "Example.com", "a\u3002b", "\u00e9", "\u00e9.com", "www.\u00e9", "xn--9CA", "XN--9ca", "a.xn--4Db", "b\u00fccher.de", "xn--bcher-kva.\u00e9", "\u212a", "xn--9ca.", "e\u0301", "\uff21",
		"", ".", "..", "a..b", ".a", "a..", "_", "a.-b", "xn--", "xn--kv", coded('e', 0x301), "a.\xff", "\xff", "a.\xc3", "1.xn--4db", "xn--4db.1", long(63, 63, 63, 62), long(64), "\u3002", "xn--a", "a b", "\x00",
	} {
		own, e := name.Own(x, s)
		wantFault(t, fmt.Sprintf("Own(%q)", s), e, 0, api.ErrForm)
		if own != "" {
			t.Errorf("Own(%q): %q beside an error", s, own)
		}
		wantMeant(t, x, s)
	}
	// What is canonical by some tables isn't by others.
	own, e := name.Own(api.Tables{}, "xn--9ca")
	if wantFault(t, "Own without letters", e, 0, api.ErrForm); own != "" {
		t.Errorf("Own without letters: %q", own)
	}
}

// partsOf are a text's parts, byte by byte.
func partsOf(s string) (l []string) {
	for i := range len(s) {
		if i == 0 {
			l = append(l, "")
		}
		if s[i] == 0x2e {
			l = append(l, "")
			continue
		}
		l[len(l)-1] += s[i : i+1]
	}
	return l
}

// upOf are a text, and those ends of it that stand behind a dot, but no empty one.
func upOf(s string) (l []string) {
	for i := range len(s) {
		if i == 0 || s[i-1] == '.' {
			l = append(l, s[i:])
		}
	}
	return l
}

// wantParts fails unless the chapter's words say that of a text's parts, and of all above it, wherever that is given up.
func wantParts(t *testing.T, s string) {
	t.Helper()
	if got, want := name.Parts(s), partsOf(s); !slices.Equal(got, want) {
		t.Errorf("Parts(%q): %q, want %q", s, got, want)
	}
	up := name.Up(s)
	if up == nil {
		t.Fatalf("Up(%q) is nil", s)
	}
	want := upOf(s)
	for many := 1; many <= len(want)+1; many++ {
		var got []string
		for above := range up {
			if got = append(got, above); len(got) == many {
				break
			}
		}
		if !slices.Equal(got, want[:min(many, len(want))]) {
			t.Errorf("Up(%q), the first %d: %q, want %q", s, many, got, want)
		}
	}
}

// P11.3: Parts and Up at what the chapter names.
func TestPartsAndUp(t *testing.T) {
	for _, c := range []struct {
		s         string
		parts, up []string
	}{
		{"", nil, nil}, {"a", []string{"a"}, []string{"a"}}, {"abc", []string{"abc"}, []string{"abc"}}, {"a.b", []string{"a", "b"}, []string{"a.b", "b"}},
		{"a.b.c", []string{"a", "b", "c"}, []string{"a.b.c", "b.c", "c"}}, {".", []string{"", ""}, []string{"."}}, {".a", []string{"", "a"}, []string{".a", "a"}}, {"a.", []string{"a", ""}, []string{"a."}},
		{"a..b", []string{"a", "", "b"}, []string{"a..b", ".b", "b"}}, {"..", []string{"", "", ""}, []string{"..", "."}}, {"a.b.", []string{"a", "b", ""}, []string{"a.b.", "b."}}, {"...", []string{"", "", "", ""}, []string{"...", "..", "."}},
		{"\x80.\xff", []string{"\x80", "\xff"}, []string{"\x80.\xff", "\xff"}}, {"\xc3.\xa9", []string{"\xc3", "\xa9"}, []string{"\xc3.\xa9", "\xa9"}}, {"\u3002.\uff0e", []string{"\u3002", "\uff0e"}, []string{"\u3002.\uff0e", "\uff0e"}},
		{"a\u3002b", []string{"a\u3002b"}, []string{"a\u3002b"}}, {"\u012e.\u2e2e", []string{"\u012e", "\u2e2e"}, []string{"\u012e.\u2e2e", "\u2e2e"}}, {"A B.\x00", []string{"A B", "\x00"}, []string{"A B.\x00", "\x00"}},
	} {
		if got := name.Parts(c.s); !slices.Equal(got, c.parts) {
			t.Errorf("Parts(%q): %q, want %q", c.s, got, c.parts)
		}
		if got := slices.Collect(name.Up(c.s)); !slices.Equal(got, c.up) {
			t.Errorf("Up(%q): %q, want %q", c.s, got, c.up)
		}
		wantParts(t, c.s)
	}
}

// telling are all texts of up to so many of some bytes.
func telling(bytes string, most int) (l []string) {
	eachOf([]byte(bytes), most, func(b []byte) { l = append(l, string(b)) })
	return l
}

// P11.3: Parts and Up of all short texts of telling bytes, and of any bytes.
func TestPartsOfShortTexts(t *testing.T) {
	for _, s := range slices.Concat(telling("a.\xff", 7), telling("\x00-./\x80", 5)) {
		wantParts(t, s)
	}
	for b := range 256 {
		wantParts(t, string([]byte{byte(b)}))
		wantParts(t, string([]byte{'a', '.', byte(b), 'c', '.', byte(b)}))
	}
}

// Up may be gone through within itself, and again behind a panic of who hears it.
func TestUpWithinItself(t *testing.T) {
	up := name.Up("a.b.c")
	var got []string
	for one := range up {
		for other := range up {
			got = append(got, one+" "+other)
		}
	}
	if want := "a.b.c a.b.c,a.b.c b.c,a.b.c c,b.c a.b.c,b.c b.c,b.c c,c a.b.c,c b.c,c c"; strings.Join(got, ",") != want {
		t.Errorf("%q", got)
	}
	func() {
		defer func() { _ = recover() }()
		for range up {
			panic("no more")
		}
	}()
	if l := slices.Collect(up); len(l) != 3 {
		t.Errorf("%q", l)
	}
}

// isUnder tells whether a text's parts end with those of another one.
func isUnder(s, top string) bool {
	parts, end := partsOf(s), partsOf(top)
	return len(parts) >= len(end) && slices.Equal(parts[len(parts)-len(end):], end)
}

// P11.3: Under at what the chapter names.
func TestUnder(t *testing.T) {
	for _, c := range []struct {
		s, top string
		want   bool
	}{
		{"", "", true}, {"a", "", true}, {".", "", true}, {"a.b", "", true}, {"\xff", "", true}, {"", "a", false}, {"", ".", false}, {"a", "a", true}, {"a.b", "a.b", true}, {".", ".", true}, {"\xff", "\xff", true},
		{"a.b", "b", true}, {"a.b.c", "b.c", true}, {"a.b.c", "c", true}, {"ab", "b", false}, {"a.bc", "c", false}, {"a-b", "b", false}, {"xb.c", "b.c", false}, {"b", "a.b", false}, {"c", "a.b.c", false},
		{"a.b", "a", false}, {"a.b.c", "a.b", false}, {"a.b.c", "b", false}, {"a.b.c", "a.c", false}, {"a.B", "b", false}, {"a\u3002b", "b", false}, {".a", "a", true}, {"a.", "a", false}, {"a.", ".", false}, {"a..", ".", true},
		{"..", ".", true}, {".", "..", false}, {"a..b", ".b", true}, {"a..b", "b", true}, {"a.b", ".b", false}, {"a..b", "a..b", true}, {"a.\xff", "\xff", true}, {"a.b.b", "b.b", true}, {"b.b", "b", true}, {"b.b", "b.b.b", false},
	} {
		if got := name.Under(c.s, c.top); got != c.want || isUnder(c.s, c.top) != c.want {
			t.Errorf("Under(%q, %q): %t, by the tests' own words %t, want %t", c.s, c.top, got, isUnder(c.s, c.top), c.want)
		}
	}
}

// keyOf is a text by whose bytes the order is that of another one's parts: behind each byte of a part there is one, behind the part there is none.
func keyOf(s string) []byte {
	var key []byte
	parts := partsOf(s)
	for i := len(parts) - 1; i >= 0; i-- {
		for j := range len(parts[i]) {
			key = append(key, 1, parts[i][j])
		}
		key = append(key, 0)
	}
	return key
}

// P11.3: Compare at what the chapter names.
func TestCompare(t *testing.T) {
	// Each is ahead of all that are told behind it.
	rising := []string{
		"", ".", "..", "a.", "a", ".a", "..a", "b..a", "\x00.a", "-.a", "/.a", "A.a", "a.a", "b.a.a", "aa.a", "b.a", "a.b.a", "\x7f.a", "\x80.a", "\xc3.a", "\u00e9.a", "\xff.a", "a\x00", "a-", "a/", "aa", "b.aa", "b", "a-.b", "z.ab.b", "z.b", "\u00e9", "a.\u00e9",
		"\xff", ".\xff", "\xff.\xff", "\xff\x00", "a.\xff\xff",
	}
	// These stand otherwise than their bytes.
	if name.Compare("a.", "b") != -1 || name.Compare("z.a", "a.b") != -1 || name.Compare("a/b.c", "a.b.c") != -1 || name.Compare("ab.c", "b.a.c") != 1 {
		t.Error("parts that differ, the last one first")
	}
	for i, a := range rising {
		for j, b := range rising {
			want := 0
			switch {
			case i < j:
				want = -1
			case i > j:
				want = 1
			}
			if got := name.Compare(a, b); got != want || bytes.Compare(keyOf(a), keyOf(b)) != want {
				t.Errorf("Compare(%q, %q): %d, by the tests' own words %d, want %d", a, b, got, bytes.Compare(keyOf(a), keyOf(b)), want)
			}
		}
	}
}

// P11.3, P11.4: Under and Compare of all pairs of short texts; the order is one.
func TestPairsOfShortTexts(t *testing.T) {
	for _, texts := range [][]string{telling("ab.", 5), telling("\x00-./\xff", 3), telling(".\x80", 7), telling("a.b\xc3\xa9", 3)} {
		for _, a := range texts {
			for _, b := range texts {
				got, want := name.Compare(a, b), bytes.Compare(keyOf(a), keyOf(b))
				if got != want || (got == 0) != (a == b) {
					t.Fatalf("Compare(%q, %q): %d, want %d", a, b, got, want)
				}
				if got := name.Under(a, b); got != isUnder(a, b) || got != (b == "" || a == b || strings.HasSuffix(a, "."+b)) {
					t.Fatalf("Under(%q, %q): %t", a, b, got)
				}
			}
		}
	}
}

// sortedOf are texts in order, each once, put in one by one where none behind it is ahead of it.
func sortedOf(l []string) (sorted []string) {
	for _, s := range l {
		at := 0
		for at < len(sorted) && bytes.Compare(keyOf(sorted[at]), keyOf(s)) < 0 {
			at++
		}
		if at == len(sorted) || sorted[at] != s {
			sorted = slices.Insert(sorted, at, s)
		}
	}
	return sorted
}

// wantSorted fails unless texts are sorted as the chapter's words say, and all that is under one stands together. P11.4.
func wantSorted(t *testing.T, l []string) {
	t.Helper()
	handed := slices.Clone(l)
	got := name.Sort(handed)
	if want := sortedOf(l); !slices.Equal(got, want) {
		t.Errorf("Sort(%q): %q, want %q", l, got, want)
	}
	if !slices.Equal(handed, l) {
		t.Errorf("%q changed to %q", l, handed)
	}
	if again := name.Sort(got); !slices.Equal(again, got) {
		t.Errorf("%q, sorted once more: %q", got, again)
	}
	for _, top := range append(slices.Clone(l), "", "a", "b.a", ".a", ".") {
		wantTogether(t, got, top)
	}
}

// wantTogether fails unless all that is under a text stands together in a list.
func wantTogether(t *testing.T, l []string, top string) {
	t.Helper()
	runs := 0
	for i, s := range l {
		if name.Under(s, top) && (i == 0 || !name.Under(l[i-1], top)) {
			runs++
		}
	}
	if runs > 1 {
		t.Errorf("under %q, in %q: %d runs", top, l, runs)
	}
	if at := slices.Index(l, top); at > 0 && name.Under(l[at-1], top) && top != "" {
		t.Errorf("%q stands behind what is under it, in %q", top, l)
	}
}

// P11.3: Sort at what the chapter names.
func TestSort(t *testing.T) {
	for _, c := range []struct{ l, want []string }{
		{nil, nil}, {[]string{}, nil}, {[]string{""}, []string{""}}, {[]string{"", ""}, []string{""}}, {[]string{"a"}, []string{"a"}}, {[]string{"b", "a"}, []string{"a", "b"}}, {[]string{"a", "b", "a"}, []string{"a", "b"}},
		{[]string{"a", "a", "a"}, []string{"a"}}, {[]string{"b.a", "a", "a.b", "c.b.a", "a", "b", ""}, []string{"", "a", "b.a", "c.b.a", "b", "a.b"}}, {[]string{"A", "a", "A"}, []string{"A", "a"}},
		{[]string{"com", "b.org", "a.com", "org", "a.b.com", "b.com"}, []string{"com", "a.com", "b.com", "a.b.com", "org", "b.org"}}, {[]string{"\xff", "\xc3\xa9", "\xff", "a"}, []string{"a", "\xc3\xa9", "\xff"}},
		{[]string{"a-b.c", "b.c", "a.b.c"}, []string{"a-b.c", "b.c", "a.b.c"}}, {[]string{".", "..", "", "."}, []string{"", ".", ".."}}, {[]string{"a.", "a", ".a", "a."}, []string{"a.", "a", ".a"}},
	} {
		if got := name.Sort(c.l); !slices.Equal(got, c.want) {
			t.Errorf("Sort(%q): %q, want %q", c.l, got, c.want)
		}
		wantSorted(t, c.l)
	}
}

// P11.3, P11.4: Sort of all short lists of telling texts, and of all short texts at once.
func TestSortOfShortLists(t *testing.T) {
	eachOf([]string{"", "a", "b", "b.a", "a-b.a", "a.b.a", ".a", "ba", "."}, 4, func(l []string) { wantSorted(t, slices.Clone(l)) })
	d := rand.New(rand.NewSource(1))
	for _, texts := range [][]string{telling("ab.", 5), telling("\x00-./", 4), telling("a.\xff", 5)} {
		want := name.Sort(texts)
		if len(want) != len(texts) {
			t.Errorf("%d texts of %d", len(want), len(texts))
		}
		for range 10 {
			l := slices.Concat(texts, texts)
			d.Shuffle(len(l), func(i, j int) { l[i], l[j] = l[j], l[i] })
			if got := name.Sort(l); !slices.Equal(got, want) {
				t.Errorf("%q, then %q", want, got)
			}
		}
		for i := 1; i < len(want); i++ {
			if bytes.Compare(keyOf(want[i-1]), keyOf(want[i])) >= 0 {
				t.Errorf("%q ahead of %q", want[i-1], want[i])
			}
		}
		for _, top := range texts {
			wantTogether(t, want, top)
		}
	}
}

// P11.4: canonical names that are under one stand together, among others, whatever their own forms are.
func TestNamesTogether(t *testing.T) {
	x := tables()
	var names []string
	for _, s := range []string{
		"com", "Example.com", "a.example.com", "z.EXAMPLE.com", "a.a.example.com", "b.example.com.", "an-example.com", "anexample.com", "example.com.de", "example.org", "example", "b\u00fccher.com", "a.b\u00fccher.com", "xn--bcher-kva.org", "\u00e9.b\u00fccher.com",
		"\u05d0.com", "z.\u05d0.com", "a.com", "zz.com", "com.com", "com.example.com",
	} {
		canonical, e := name.Canon(x, s)
		wantFault(t, s, e, 0, nil)
		wantCanonical(t, x, canonical)
		names = append(names, canonical)
	}
	wantSorted(t, names)
	sorted := name.Sort(names)
	at := slices.Index(sorted, "example.com")
	if want := []string{"example.com", "a.example.com", "a.a.example.com", "b.example.com", "com.example.com", "z.example.com"}; !slices.Equal(sorted[at:at+len(want)], want) {
		t.Errorf("%q", sorted)
	}
	for _, top := range []string{"com", "example.com", "xn--bcher-kva.com", "xn--4db.com", "org", "mple.com"} {
		wantTogether(t, sorted, top)
	}
}

// ask calls all functions, and is what they answer.
func ask(x api.Tables, s, other string, l []string) string {
	canonical, fault := name.Canon(x, s)
	own, ownFault := name.Own(x, s)
	return fmt.Sprintf("%q %s; %q %s; %q; %q; %t %t; %d; %q", canonical, told(fault), own, told(ownFault), name.Parts(s), slices.Collect(name.Up(s)),
		name.Under(s, other), name.Under(other, s), name.Compare(s, other), name.Sort(l))
}

// P1: whatever the tables and the texts are, the calls end, and give the same answer again.
func TestAnyArgumentsEnd(t *testing.T) {
	ranges := [][]api.Range{nil, {one(0, 0)}, {span(9, -9, -1), span(math.MinInt32, math.MaxInt32, math.MinInt)}, {span('a', 'z', 9), span(0x80, 0x200d, 2), one(0x301, math.MaxInt)}, {span(-5, 0x110000, 1), one(math.MaxInt32, 3)}}
	rows := []api.Row{{From: -1}, {From: 'a', To: []rune{'b', '.'}}, {From: 'b', To: []rune{'a', 'c', 'd'}}, {From: 'b', To: []rune{-1, 'b'}}, {From: 0xe9, To: []rune{0xe9, 0xe9}}, {From: 5}, {From: 'x', To: []rune{'.'}}}
	pairs := []api.Pair{{From: 'x', To: '.'}, {From: -1, To: 'x'}, {From: 'a', To: -1}, {From: 0x80, To: 'A'}, {From: 'b', To: 0xd800}, {From: math.MinInt32, To: math.MaxInt32}}
	texts := []string{"", ".", "\xff", "a.b", "xn--", "xn--a.xn--a", "A.xn--TDA.b", "1.\u05d0", "a\u3002x.", "..", "b\u00e9-.-", strings.Repeat("xn--.", 50), strings.Repeat("a.", 200), "e\u0301.e", "xn--9ca.xn--4db"}
	for _, r := range ranges {
		for i := range len(rows) + 1 {
			x := api.Tables{
				Norm:  api.Norm{Classes: r, Rows: rows[:i], Excluded: []rune{5, -1}},
				Props: api.Props{Exceptions: r, Unassigned: r, Joiners: r, OldHangul: r, Unstable: r, Ignorable: r, Letters: r, Joining: r, Scripts: r, Directions: r, Marks: r},
				Lower: pairs[:i%len(pairs)],
			}
			for _, s := range texts {
				for _, other := range texts {
					l := []string{s, other, s}
					if a, b := ask(x, s, other, l), ask(x, s, other, l); a != b {
						t.Errorf("%x, %q, %q: %s, then %s", x, s, other, a, b)
					}
				}
			}
		}
	}
}

// P1: long texts, and long lists.
func TestLong(t *testing.T) {
	x := tables()
	for _, s := range []string{
		strings.Repeat("a", 100000), strings.Repeat("a.", 50000), strings.Repeat(".", 100000), strings.Repeat("\u3002", 50000), strings.Repeat("\u00e9\u3002", 20000), strings.Repeat("\u05d0.", 20000), strings.Repeat("a.", 20000) + "\u05d0.1",
		strings.Repeat("xn--9ca.", 20000), strings.Repeat("a.", 50000) + "\xff", strings.Repeat("a.", 50000) + "_", strings.Repeat("e\u0301", 20000) + ".a",
	} {
		wantMeant(t, x, s)
		if got, want := len(name.Parts(s)), strings.Count(s, ".")+1; got != want {
			t.Errorf("%d parts, want %d", got, want)
		}
		if !name.Under("a."+s, s) || name.Under(s, "a."+s) || name.Compare(s, s) != 0 {
			t.Errorf("Under or Compare of a text of %d bytes", len(s))
		}
	}
	var l []string
	for i := range 50000 {
		l = append(l, fmt.Sprintf("%d.%d.a", i%100, i%1000))
	}
	if got := name.Sort(l); len(got) != 1000 || !slices.IsSortedFunc(got, name.Compare) {
		t.Errorf("%d texts", len(got))
	}
}

// withRoom is a copy of a list, with room behind it in which there is what would be seen if it were read.
func withRoom[T any](l []T, behind ...T) []T {
	return append(slices.Clone(l), behind...)[:len(l)]
}

// R4: nothing that is handed in is changed, and nothing behind a list's length is read or written.
func TestMemory(t *testing.T) {
	for _, row := range [][]string{nil, {"a"}, {"b", "a"}, {"a", "a"}, {"c.b", "b", "b", "a.b", "b"}} {
		behind := []string{"", "a", "b.b", "a"}
		l := withRoom(row, behind...)
		if got, want := name.Sort(l), sortedOf(row); !slices.Equal(got, want) {
			t.Errorf("Sort(%q): %q", row, got)
		}
		if whole := l[:len(row)+len(behind)]; !slices.Equal(whole, slices.Concat(row, behind)) {
			t.Errorf("%q changed to %q", row, whole)
		}
	}
	x, want := tables(), tables()
	x.Lower = withRoom(x.Lower, api.Pair{From: 0x20000, To: 'A'}, api.Pair{From: 'a', To: 'b'})
	x.Norm.Rows = withRoom(x.Norm.Rows, api.Row{From: 'a', To: []rune{'b'}})
	x.Props.Directions = withRoom(x.Props.Directions, one('a', api.DirR))
	for _, s := range []string{"a.b", "B\u00dcCHER.de", "1.\u05d0", "a._", "\xff", "xn--9ca.a"} {
		if got := ask(x, s, "a", nil); got != ask(want, s, "a", nil) {
			t.Errorf("%q: %s", s, got)
		}
	}
	if fmt.Sprint(x) != fmt.Sprint(want) {
		t.Errorf("changed to %x", x)
	}
}

// R4: what is answered may be written over and grown, and nothing else changes by it.
func TestAnswersAreNew(t *testing.T) {
	handed := []string{"b.a", "a", "b.a", "c"}
	for _, answered := range []func() []string{
		func() []string { return name.Sort(handed) }, func() []string { return name.Sort(handed[1:2]) }, func() []string { return name.Parts("a.b.c") }, func() []string { return name.Parts("a") },
	} {
		first := answered()
		want := slices.Clone(first)
		clear(first)
		_ = append(first[:1], "z", "z", "z", "z")
		if again := answered(); !slices.Equal(again, want) || strings.Join(handed, " ") != "b.a a b.a c" {
			t.Errorf("%q, then %q; %q", want, again, handed)
		}
	}
	x := tables()
	for _, s := range []string{"\xff", "", "a..b", "_.a", "a.xn--kv", "1.\u05d0", long(63, 63, 63, 63)} {
		for _, fails := range []func() error{func() error { _, e := name.Canon(x, s); return e }, func() error { _, e := name.Own(x, s); return e }} {
			var f *api.Fault
			if !errors.As(fails(), &f) {
				t.Fatal("no Fault")
			}
			want := *f
			*f = api.Fault{At: -5, Err: api.ErrFull}
			if e := fails(); !errors.As(e, &f) || *f != want {
				t.Errorf("%q: %s, want %v", s, told(e), want)
			}
		}
	}
}

// drawnText is a text of parts that are told, of up to so many labels.
func drawnText(d *rand.Rand, most int) string {
	parts := []string{"a", "b", "E", "e\u0301", "\u00c9", "\u00e9", "1", "-", "\u05d0", "\u05d1", "\u0627", "\u0660", "\u4e2d", "\u212a", "\uff21", "\U0002ff00", "\u0958", "l\u00b7l", "xn--9ca", "XN--4DB"}
	odd := []string{"", "_", "\u00b7", "\u0301", "xn--", "xn--kv", "\xff", "\xc3", "\u2603", strings.Repeat("a", 60), strings.Repeat("\u4e2d", 30), "xn--a-", "ab--c"}
	var s strings.Builder
	for i := range d.Intn(most + 1) {
		if i > 0 {
			s.WriteString(dots()[d.Intn(4)*d.Intn(2)])
		}
		for range 1 + d.Intn(3) {
			s.WriteString(parts[d.Intn(len(parts))])
		}
		if d.Intn(12) == 0 {
			s.WriteString(odd[d.Intn(len(odd))])
		}
	}
	if d.Intn(4) == 0 {
		s.WriteString(dots()[d.Intn(4)])
	}
	return s.String()
}

// drawnTables are the tests' own, with other directions and classes of some runes.
func drawnTables(d *rand.Rand) api.Tables {
	x := tables()
	if d.Intn(2) == 0 {
		for i := range x.Props.Directions {
			if d.Intn(3) == 0 {
				x.Props.Directions[i].Value = 1 + d.Intn(api.DirBN)
			}
		}
	}
	if d.Intn(3) == 0 {
		x.Props.Exceptions[d.Intn(3)].Value = 1 + d.Intn(api.Unassigned)
	}
	if d.Intn(4) == 0 {
		x.Lower = x.Lower[d.Intn(len(x.Lower)):]
	}
	return x
}

// wantDrawn holds all functions against the chapter's words.
func wantDrawn(t *testing.T, seed int64) {
	t.Helper()
	d := rand.New(rand.NewSource(seed))
	x := drawnTables(d)
	wantFault(t, fmt.Sprintf("seed %d", seed), label.Fit(x), 0, nil)
	var l []string
	for range 6 {
		s := drawnText(d, 2+d.Intn(6)*d.Intn(6))
		wantMeant(t, x, s)
		wantMeant(t, x, strings.ToUpper(s))
		wantParts(t, s)
		if canonical, e := name.Canon(x, s); e == nil {
			s = canonical
		}
		l = append(l, s)
		l = append(l, slices.Collect(name.Up(s))...)
	}
	d.Shuffle(len(l), func(i, j int) { l[i], l[j] = l[j], l[i] })
	wantSorted(t, l)
	for _, a := range l[:min(len(l), 12)] {
		for _, b := range l {
			if got := name.Compare(a, b); got != bytes.Compare(keyOf(a), keyOf(b)) || name.Under(a, b) != isUnder(a, b) {
				t.Errorf("%q, %q: %d, %t", a, b, got, name.Under(a, b))
			}
		}
	}
}

func TestDrawn(t *testing.T) {
	for seed := range int64(1000) {
		wantDrawn(t, seed)
	}
}

func FuzzDrawn(f *testing.F) {
	for seed := range int64(20) {
		f.Add(seed)
	}
	f.Fuzz(func(t *testing.T, seed int64) { wantDrawn(t, seed) })
}
