package label_test

import (
	"errors"
	"fmt"
	"math"
	"math/rand"
	"slices"
	"strings"
	"testing"

	"eponym/api"
	"eponym/bidi"
	"eponym/classes"
	"eponym/comp"
	"eponym/contexts"
	"eponym/label"
	"eponym/puny"
	"eponym/utf"
)

// wantFault fails unless the error is just a Fault of that named error at that place.
func wantFault(t *testing.T, what string, e error, place int, named error) {
	t.Helper()
	if named == nil {
		if e != nil {
			t.Errorf("%s: %s, want no error", what, told(e))
		}
		return
	}
	var f *api.Fault
	if !errors.As(e, &f) {
		t.Errorf("%s: %v is no Fault, want %q at %d", what, e, named, place)
		return
	}
	if f.At != place || !errors.Is(e, named) {
		t.Errorf("%s: %q at %d, want %q at %d", what, f.Err, f.At, named, place)
	}
}

// told is an error as a text.
func told(e error) string {
	var f *api.Fault
	if errors.As(e, &f) {
		return fmt.Sprintf("%v at %d", f.Err, f.At)
	}
	return fmt.Sprint(e)
}

// one is a range of one rune.
func one(r rune, value int) api.Range { return api.Range{Lo: r, Hi: r, Value: value} }

// span is a range of runes.
func span(lo, hi rune, value int) api.Range { return api.Range{Lo: lo, Hi: hi, Value: value} }

// turning are pairs that turn the runes from one to another to those so much above.
func turning(lo, hi rune, by rune) (l []api.Pair) {
	for r := lo; r <= hi; r++ {
		l = append(l, api.Pair{From: r, To: r + by})
	}
	return l
}

// norm is some of what Unicode tells of how runes are composed.
func norm() api.Norm {
	return api.Norm{
		Rows: []api.Row{
			{From: 0xc5, To: []rune{'A', 0x30a}}, {From: 0xc9, To: []rune{'E', 0x301}}, {From: 0xdc, To: []rune{'U', 0x308}},
			{From: 0xe5, To: []rune{'a', 0x30a}}, {From: 0xe9, To: []rune{'e', 0x301}}, {From: 0xfc, To: []rune{'u', 0x308}},
			{From: 0x958, To: []rune{0x915, 0x93c}}, {From: 0x1e62, To: []rune{'S', 0x323}}, {From: 0x1e63, To: []rune{'s', 0x323}},
			{From: 0x1e68, To: []rune{0x1e62, 0x307}}, {From: 0x1e69, To: []rune{0x1e63, 0x307}}, {From: 0x1fef, To: []rune{'`'}},
			{From: 0x212a, To: []rune{'K'}}, {From: 0x212b, To: []rune{0xc5}}, {From: 0xf900, To: []rune{0x8c48}}, {From: 0xfb1d, To: []rune{0x5d9, 0x5b4}},
		},
		Classes:  []api.Range{span(0x300, 0x314, 230), one(0x323, 220), one(0x5b4, 14), span(0x64b, 0x64d, 27), one(0x93c, 7), one(0x94d, 9)},
		Excluded: []rune{0x958, 0xfb1d},
	}
}

// tables are some of what Unicode tells of runes.
func tables() api.Tables {
	return api.Tables{
		Norm: norm(),
		Props: api.Props{
			Exceptions: []api.Range{
				one(0xb7, api.ContextO), one(0xdf, api.Pvalid), one(0x375, api.ContextO), span(0x5f3, 0x5f4, api.ContextO), one(0x640, api.Disallowed),
				span(0x660, 0x669, api.ContextO), span(0x6f0, 0x6f9, api.ContextO), one(0x30fb, api.ContextO),
			},
			Unassigned: []api.Range{span(0x378, 0x379, 0)},
			Joiners:    []api.Range{span(0x200c, 0x200d, 0)},
			OldHangul:  []api.Range{span(0x1100, 0x11ff, 0)},
			Unstable:   []api.Range{span('A', 'Z', 0), span(0xc0, 0xd6, 0), span(0xd8, 0xde, 0), span(0x1e62, 0x1e62, 0), span(0x212a, 0x212b, 0)},
			Ignorable:  []api.Range{one(0xad, 0)},
			Letters: []api.Range{
				span('A', 'Z', 0), span('a', 'z', 0), span(0xc0, 0xd6, 0), span(0xd8, 0xf6, 0), span(0xf8, 0xff, 0), span(0x300, 0x314, 0), one(0x323, 0),
				span(0x391, 0x3c9, 0), one(0x5b4, 0), span(0x5d0, 0x5ea, 0), span(0x620, 0x64d, 0), span(0x915, 0x94d, 0), span(0x1e62, 0x1e69, 0),
				span(0x3041, 0x3096, 0), span(0x30a1, 0x30fa, 0), span(0x4e00, 0x9fff, 0), span(0xac00, 0xd7a3, 0), span(0x10400, 0x1044f, 0),
			},
			Joining: []api.Range{one(0x627, api.JoinR), one(0x647, api.JoinD), span(0x64b, 0x64d, api.JoinT)},
			Scripts: []api.Range{span(0x391, 0x3c9, api.Greek), span(0x5d0, 0x5ea, api.Hebrew), span(0x30a1, 0x30fa, api.Katakana), span(0x4e00, 0x9fff, api.Han)},
			Directions: []api.Range{
				one('-', api.DirES), span('0', '9', api.DirEN), span(0x300, 0x314, api.DirNSM), one(0x323, api.DirNSM), one(0x5b4, api.DirNSM),
				span(0x5d0, 0x5f4, api.DirR), span(0x620, 0x64a, api.DirAL), span(0x64b, 0x64d, api.DirNSM), span(0x660, 0x669, api.DirAN),
				span(0x6f0, 0x6f9, api.DirEN), span(0x200c, 0x200d, api.DirBN),
			},
			Marks: []api.Range{span(0x300, 0x314, 0), one(0x323, 0), one(0x5b4, 0), span(0x64b, 0x64d, 0), span(0x93c, 0x94d, 0)},
		},
		Lower: slices.Concat(
			turning(0xc0, 0xd6, 0x20), turning(0xd8, 0xde, 0x20), turning(0x391, 0x3a1, 0x20), turning(0x1e62, 0x1e62, 1), turning(0x1e68, 0x1e68, 1),
			[]api.Pair{{From: 0x212a, To: 'k'}, {From: 0x212b, To: 0xe5}, {From: 0xff0d, To: '-'}},
			turning(0xff21, 0xff3a, 'a'-0xff21), turning(0xff41, 0xff5a, 'a'-0xff41), turning(0x10400, 0x10427, 0x28),
		),
	}
}

// generous are tables by which each right rune is Pvalid.
func generous() api.Tables {
	return api.Tables{Norm: norm(), Props: api.Props{Exceptions: []api.Range{span(0, api.MaxRune, api.Pvalid)}}, Lower: []api.Pair{{From: 0xc9, To: 0xe9}}}
}

// has tells whether a table has a rune, range by range.
func has(l []api.Range, r rune) bool {
	return slices.ContainsFunc(l, func(of api.Range) bool { return of.Lo <= r && r <= of.Hi })
}

// turnedSmall are runes that were turned small, by a map of all that is turned.
func turnedSmall(x api.Tables, l []rune) []rune {
	small := map[rune]rune{}
	for i, capital := range "ABCDEFGHIJKLMNOPQRSTUVWXYZ" {
		small[capital] = rune("abcdefghijklmnopqrstuvwxyz"[i])
	}
	for _, p := range x.Lower {
		small[p.From] = p.To
	}
	var turned []rune
	for _, r := range l {
		if to, ok := small[r]; ok {
			r = to
		}
		turned = append(turned, r)
	}
	return comp.All(x.Norm, turned)
}

// formOf is the plain form of a label, of any length.
func formOf(l []rune) (string, error) {
	var text strings.Builder
	for _, r := range l {
		if r >= 0x80 {
			code, e := puny.Encode(l)
			return "xn--" + code, e
		}
		text.WriteByte(byte(r))
	}
	return text.String(), nil
}

// The lines of the chapter's table, by the order in which they are asked.
const (
	isEmpty = iota
	notComposed
	hyphenFirst
	hyphenLast
	hyphensInside
	markFirst
	barred
	context
	side
	long
	manyLines
)

// lineName is the named error of a line.
func lineName(line int) error {
	return []error{
		api.ErrEmpty, api.ErrNorm, api.ErrHyphen, api.ErrHyphen, api.ErrHyphen, api.ErrClass, api.ErrClass, api.ErrContext, api.ErrBidi, api.ErrLong,
	}[line]
}

// mayBePlain are the plain runes that labels may have.
const mayBePlain = "-0123456789abcdefghijklmnopqrstuvwxyz"

// barredAt is the place of the first rune that is barred; -1: there is none.
func barredAt(x api.Tables, l []rune) int {
	at := -1
	for i := len(l) - 1; i >= 0; i-- {
		r := l[i]
		dot := r == 0x3002 || r == 0xff0e || r == 0xff61
		from := slices.ContainsFunc(x.Lower, func(p api.Pair) bool { return p.From == r })
		class := classes.Of(x.Props, r)
		if r < 0x80 && !strings.ContainsRune(mayBePlain, r) || dot || from || class == api.Disallowed || class == api.Unassigned {
			at = i
		}
	}
	return at
}

// lines are the places at which the chapter's lines hold of a label, -1 of those that don't.
func lines(x api.Tables, l []rune) (at [manyLines]int) {
	for i := range at {
		at[i] = -1
	}
	if len(l) == 0 {
		at[isEmpty] = 0
		return at
	}
	composed := comp.All(x.Norm, l)
	for i := max(len(l), len(composed)) - 1; i >= 0; i-- {
		if i >= len(l) || i >= len(composed) || l[i] != composed[i] {
			at[notComposed] = i
		}
	}
	if l[0] == '-' {
		at[hyphenFirst] = 0
	}
	if l[len(l)-1] == '-' {
		at[hyphenLast] = len(l) - 1
	}
	if len(l) >= 4 && string(l[2:4]) == "--" {
		at[hyphensInside] = 2
	}
	if has(x.Props.Marks, l[0]) {
		at[markFirst] = 0
	}
	at[barred], at[context] = barredAt(x, l), contexts.First(x, l)
	var f *api.Fault
	if bidi.Right(x.Props, l) && errors.As(bidi.Label(x.Props, l), &f) {
		at[side] = f.At
	}
	if form, e := formOf(l); e != nil || len(form) > 63 {
		at[long] = 0
	}
	return at
}

// faultOf is what keeps a label from being; nil: it may be.
func faultOf(x api.Tables, l []rune) (place int, named error) {
	at := lines(x, l)
	for line := manyLines - 1; line >= 0; line-- {
		if at[line] >= 0 {
			place, named = at[line], lineName(line)
		}
	}
	return place, named
}

// wantLabel fails unless Check and Plain say of a label what the chapter's words do.
func wantLabel(t *testing.T, x api.Tables, l []rune) {
	t.Helper()
	place, named := faultOf(x, l)
	want := ""
	if named == nil {
		want, _ = formOf(l)
	}
	wantFault(t, fmt.Sprintf("Check(%x)", l), label.Check(x, l), place, named)
	got, e := label.Plain(x, l)
	wantFault(t, fmt.Sprintf("Plain(%x)", l), e, place, named)
	if got != want {
		t.Errorf("Plain(%x): %q, want %q", l, got, want)
	}
}

// readOf is what Runes is to answer of a text.
func readOf(x api.Tables, s string) (l []rune, place int, named error) {
	for i := range len(s) {
		if s[i] >= 0x80 {
			return nil, i, api.ErrByte
		}
		l = append(l, rune(s[i]))
	}
	if len(s) >= 4 && s[:4] == "xn--" {
		decoded, e := puny.Decode(s[4:])
		var f *api.Fault
		if errors.As(e, &f) {
			return nil, f.At + 4, f.Err
		}
		encoded, e := puny.Encode(decoded)
		if e != nil || encoded != s[4:] || !slices.ContainsFunc(decoded, func(r rune) bool { return r >= 0x80 }) {
			return nil, 0, api.ErrPuny
		}
		l = decoded
	}
	if place, named = faultOf(x, l); named != nil {
		return nil, place, named
	}
	return l, 0, nil
}

// wantRead fails unless Runes says of a text what the chapter's words do, and Plain the text of what it reads.
func wantRead(t *testing.T, x api.Tables, s string) {
	t.Helper()
	want, place, named := readOf(x, s)
	got, e := label.Runes(x, s)
	wantFault(t, fmt.Sprintf("Runes(%q)", s), e, place, named)
	if !slices.Equal(got, want) {
		t.Errorf("Runes(%q): %x, want %x", s, got, want)
	}
	if named == nil {
		if again, e := label.Plain(x, got); again != s || e != nil {
			t.Errorf("%q is read as %x, whose plain form is %q (%s)", s, got, again, told(e))
		}
	}
}

// meantOf is what Canon is to answer of a text.
func meantOf(x api.Tables, s string) (form string, place int, named error) {
	l, e := utf.Decode(s)
	var f *api.Fault
	if errors.As(e, &f) {
		return "", f.At, f.Err
	}
	l = turnedSmall(x, l)
	plain := !slices.ContainsFunc(l, func(r rune) bool { return r >= 0x80 })
	if plain && len(l) >= 4 && string(l[:4]) == "xn--" {
		if _, place, named = readOf(x, string(l)); named != nil {
			return "", place, named
		}
		return string(l), 0, nil
	}
	if place, named = faultOf(x, l); named != nil {
		return "", place, named
	}
	form, _ = formOf(l)
	return form, 0, nil
}

// wantMeant fails unless Canon says of a text what the chapter's words do, and what it answers is canonical.
func wantMeant(t *testing.T, x api.Tables, s string) {
	t.Helper()
	want, place, named := meantOf(x, s)
	got, e := label.Canon(x, s)
	wantFault(t, fmt.Sprintf("Canon(%q)", s), e, place, named)
	if got != want {
		t.Errorf("Canon(%q): %q, want %q", s, got, want)
	}
	if label.Same(x, s, s) != (named == nil) {
		t.Errorf("Same(%q, itself): %t", s, named != nil)
	}
	if named == nil {
		wantCanonical(t, x, got)
	}
}

// wantCanonical fails unless a text is a plain form that Canon answers as it is, and of its runes too.
func wantCanonical(t *testing.T, x api.Tables, form string) {
	t.Helper()
	if again, e := label.Canon(x, form); again != form || e != nil {
		t.Errorf("Canon(%q): %q, %s", form, again, told(e))
	}
	l, e := label.Runes(x, form)
	if e != nil {
		t.Errorf("Runes(%q): %s", form, told(e))
	}
	if small := label.Small(x, l); !slices.Equal(small, l) {
		t.Errorf("Small(%x): %x", l, small)
	}
	if again, e := label.Canon(x, string(l)); again != form || e != nil {
		t.Errorf("Canon(%q), the runes of %q: %q, %s", string(l), form, again, told(e))
	}
	if !label.Same(x, string(l), form) || !label.Same(x, form, string(l)) {
		t.Errorf("%q and %q aren't the same", string(l), form)
	}
}

// eachOf hands on all rows of up to so many of what is told, the same list each time.
func eachOf[T any](telling []T, most int, do func([]T)) {
	var grow func(l []T)
	grow = func(l []T) {
		do(l)
		if len(l) == most {
			return
		}
		for _, x := range telling {
			grow(append(l, x))
		}
	}
	grow(make([]T, 0, most))
}

// The tests' own tables are fit; so are no tables at all.
func TestTablesAreFit(t *testing.T) {
	for _, x := range []api.Tables{{}, tables(), generous(), {Lower: []api.Pair{}}} {
		wantFault(t, "fit tables", label.Fit(x), 0, nil)
	}
}

// fitCase is a change to fit tables, and what Fit is to say of them.
type fitCase struct {
	name   string
	change func(x *api.Tables)
	place  int
	named  error
}

// wantFit fails unless Fit says that of the tests' tables, once changed.
func wantFit(t *testing.T, cases ...fitCase) {
	t.Helper()
	for _, c := range cases {
		x := tables()
		c.change(&x)
		wantFault(t, c.name, label.Fit(x), c.place, c.named)
	}
}

// wrongNorms are the faults that layer 4 tells.
func wrongNorms() []fitCase {
	return []fitCase{
		{"many rows", func(x *api.Tables) { x.Norm.Rows = make([]api.Row, api.MaxTable+1) }, 0, api.ErrFull},
		{"many excluded", func(x *api.Tables) { x.Norm.Excluded = make([]rune, api.MaxTable+1) }, 0, api.ErrFull},
		{"no right From", func(x *api.Tables) { x.Norm.Rows[3].From = 0xd800 }, 3, api.ErrRange},
		{"From of Hangul", func(x *api.Tables) { x.Norm.Rows[15].From = 0xac00 }, 15, api.ErrRange},
		{"rows that fall", func(x *api.Tables) { x.Norm.Rows[2].From = 0xc9 }, 2, api.ErrOrder},
		{"no To", func(x *api.Tables) { x.Norm.Rows[4].To = nil }, 4, api.ErrForm},
		{"To above From", func(x *api.Tables) { x.Norm.Rows[4].To[0] = 0xea }, 4, api.ErrForm},
		{"three runes in To", func(x *api.Tables) { x.Norm.Rows[0].To = []rune{'A', 0x30a, 0x301} }, 0, api.ErrForm},
		{"second of To that is a From", func(x *api.Tables) { x.Norm.Rows[6].To[1] = 0xe9 }, 6, api.ErrDeep},
		{"classes that aren't a table", func(x *api.Tables) { x.Norm.Classes[1].Lo = 0x314 }, 1, api.ErrOrder},
		{"a range of classes that may not be", func(x *api.Tables) { x.Norm.Classes[2].Hi = 0x5b3 }, 2, api.ErrRange},
		{"a class of 0", func(x *api.Tables) { x.Norm.Classes[3].Value = 0 }, 3, api.ErrKind},
		{"a class of 255", func(x *api.Tables) { x.Norm.Classes[5].Value = 255 }, 5, api.ErrKind},
		{"excluded that isn't right", func(x *api.Tables) { x.Norm.Excluded[1] = 0x110000 }, 1, api.ErrRange},
		{"excluded that fall", func(x *api.Tables) { x.Norm.Excluded[1] = 0x957 }, 1, api.ErrOrder},
		{"rows that compose the same", func(x *api.Tables) { x.Norm.Rows[5].To = []rune{'e', 0x301} }, 5, api.ErrThere},
	}
}

// wrongProps are the faults that layer 7 tells.
func wrongProps() (l []fitCase) {
	all := []func(p *api.Props) *[]api.Range{
		func(p *api.Props) *[]api.Range { return &p.Exceptions }, func(p *api.Props) *[]api.Range { return &p.Unassigned },
		func(p *api.Props) *[]api.Range { return &p.Joiners }, func(p *api.Props) *[]api.Range { return &p.OldHangul },
		func(p *api.Props) *[]api.Range { return &p.Unstable }, func(p *api.Props) *[]api.Range { return &p.Ignorable },
		func(p *api.Props) *[]api.Range { return &p.Letters }, func(p *api.Props) *[]api.Range { return &p.Joining },
		func(p *api.Props) *[]api.Range { return &p.Scripts }, func(p *api.Props) *[]api.Range { return &p.Directions },
		func(p *api.Props) *[]api.Range { return &p.Marks },
	}
	for i, table := range all {
		name := fmt.Sprintf("table %d of properties", i)
		l = append(l,
			fitCase{name, func(x *api.Tables) { *table(&x.Props) = make([]api.Range, api.MaxTable+1) }, 0, api.ErrFull},
			fitCase{name, func(x *api.Tables) { *table(&x.Props) = []api.Range{one(5, 1), span(9, 8, 1)} }, 1, api.ErrRange},
			fitCase{name, func(x *api.Tables) { *table(&x.Props) = []api.Range{one(5, 1), one(7, 1), one(7, 1)} }, 2, api.ErrOrder},
		)
		if i == 0 || 7 <= i && i <= 9 {
			l = append(l,
				fitCase{name, func(x *api.Tables) { *table(&x.Props) = []api.Range{one(5, 1), one(7, 0)} }, 1, api.ErrKind},
				fitCase{name, func(x *api.Tables) { *table(&x.Props) = []api.Range{one(5, 12)} }, 0, api.ErrKind},
			)
		}
	}
	return l
}

// P10.1: each fault that layer 8 tells.
func TestFitOfWrongTables(t *testing.T) {
	wantFit(t, wrongNorms()...)
	wantFit(t, wrongProps()...)
}

// P10.1: rows with plain runes; only a To's first may be one.
func TestFitOfPlainRows(t *testing.T) {
	row := func(at int, row api.Row) func(*api.Tables) { return func(x *api.Tables) { x.Norm.Rows[at] = row } }
	wantFit(t,
		fitCase{"a plain From", row(0, api.Row{From: 'B', To: []rune{'A'}}), 0, api.ErrKind},
		fitCase{"a plain From, and a second that isn't", row(0, api.Row{From: 'B', To: []rune{'A', 0x30a}}), 0, api.ErrKind},
		fitCase{"the last plain From", row(0, api.Row{From: 0x7f, To: []rune{'A', 0x30a}}), 0, api.ErrKind},
		fitCase{"the first From that isn't plain", row(0, api.Row{From: 0x80, To: []rune{'A', 0x30a}}), 0, nil},
		fitCase{"a plain second", row(3, api.Row{From: 0xe5, To: []rune{'a', 'o'}}), 3, api.ErrKind},
		fitCase{"the plain second 0", row(3, api.Row{From: 0xe5, To: []rune{'a', 0}}), 3, api.ErrKind},
		fitCase{"the last plain second", row(15, api.Row{From: 0xfb1d, To: []rune{0x5d9, 0x7f}}), 15, api.ErrKind},
		fitCase{"the first second that isn't plain", row(15, api.Row{From: 0xfb1d, To: []rune{0x5d9, 0x80}}), 15, nil},
		fitCase{"a plain first", row(3, api.Row{From: 0xe5, To: []rune{0x7f, 0x30a}}), 3, nil},
		fitCase{"a plain first alone", row(3, api.Row{From: 0xe5, To: []rune{'o'}}), 3, nil},
		fitCase{"two rows, the first told", func(x *api.Tables) { x.Norm.Rows[9].To[1], x.Norm.Rows[7].To[1] = '1', '2' }, 7, api.ErrKind},
	)
}

// P10.1: ranges of classes with plain runes.
func TestFitOfPlainClasses(t *testing.T) {
	ahead := func(r ...api.Range) func(*api.Tables) {
		return func(x *api.Tables) { x.Norm.Classes = append(r, x.Norm.Classes...) }
	}
	wantFit(t,
		fitCase{"a range of 0", ahead(one(0, 1)), 0, api.ErrKind},
		fitCase{"a range of plain runes", ahead(span('a', 'z', 230)), 0, api.ErrKind},
		fitCase{"a range that begins with a plain rune", ahead(span(0x7f, 0x2ff, 230)), 0, api.ErrKind},
		fitCase{"a range that begins and ends with 7f", ahead(one(0x7f, 230)), 0, api.ErrKind},
		fitCase{"a range from 0 to 80", ahead(span(0, 0x80, 230)), 0, api.ErrKind},
		fitCase{"two ranges", ahead(one('a', 1), span('b', 'c', 1)), 0, api.ErrKind},
		fitCase{"a range from 80 on", ahead(span(0x80, 0x2ff, 230)), 0, nil},
	)
}

// rising are so many pairs whose Froms rise.
func rising(many int) (l []api.Pair) {
	for i := range many {
		l = append(l, api.Pair{From: 0x20000 + 2*rune(i), To: 'a' + rune(i%26)})
	}
	return l
}

// lower is a change of Lower.
func lower(l ...api.Pair) func(*api.Tables) {
	return func(x *api.Tables) { x.Lower = l }
}

// P10.1: Lower with as many pairs as there may be, and more.
func TestFitOfManyPairs(t *testing.T) {
	wrong := rising(api.MaxTable + 1)
	wrong[0] = api.Pair{From: -1, To: -1}
	wantFit(t,
		fitCase{"as many pairs as there may be", lower(rising(api.MaxTable)...), 0, nil},
		fitCase{"one more", lower(rising(api.MaxTable + 1)...), 0, api.ErrFull},
		fitCase{"many more", lower(rising(3 * api.MaxTable)...), 0, api.ErrFull},
		fitCase{"one more, and a wrong one", lower(wrong...), 0, api.ErrFull},
		fitCase{"a wrong one behind all others", lower(append(rising(api.MaxTable-1), api.Pair{From: 0x30000, To: 'Q'})...), api.MaxTable - 1, api.ErrRange},
		fitCase{"one behind all others that falls", lower(append(rising(api.MaxTable-1), api.Pair{From: 0x20000, To: 'q'})...), api.MaxTable - 1, api.ErrOrder},
		fitCase{"one behind all others that is turned on", lower(append(rising(api.MaxTable-1), api.Pair{From: 0x30000, To: 0x20000})...), api.MaxTable - 1, api.ErrThere},
	)
	x := tables()
	x.Lower = rising(api.MaxTable)
	for i, p := range x.Lower {
		if got := label.Small(x, []rune{p.From, p.From + 1}); !slices.Equal(got, []rune{p.To, p.From + 1}) {
			t.Errorf("pair %d: Small of %x: %x", i, p.From, got)
		}
	}
}

// P10.1: Froms and Tos that may not be, by themselves.
func TestFitOfWrongPairs(t *testing.T) {
	for _, r := range []rune{math.MinInt32, -1, 0, 'A', 'a', 0x7f, 0xd800, 0xdfff, 0x110000, math.MaxInt32} {
		wantFit(t, fitCase{fmt.Sprintf("From %x", r), lower(api.Pair{From: r, To: 0xe0}), 0, api.ErrRange})
	}
	for _, r := range []rune{math.MinInt32, -1, 'A', 'M', 'Z', 0xd800, 0xdfff, 0x110000, math.MaxInt32} {
		wantFit(t, fitCase{fmt.Sprintf("To %x", r), lower(api.Pair{From: 0x80, To: 'a'}, api.Pair{From: 0xc0, To: r}), 1, api.ErrRange})
	}
	for _, r := range []rune{0x80, 0xc0, 0xd7ff, 0xe000, 0xffff, 0x10000, 0x10ffff} {
		wantFit(t, fitCase{fmt.Sprintf("From %x", r), lower(api.Pair{From: r, To: 0xe0}), 0, nil})
	}
	for _, r := range []rune{0, '-', '@', '[', 'a', 'z', 0x7f, 0x80, 0xd7ff, 0xe000, 0x10ffff} {
		wantFit(t, fitCase{fmt.Sprintf("To %x", r), lower(api.Pair{From: 0xc0, To: r}), 0, nil})
	}
}

// P10.1: pairs that are at fault beside others.
func TestFitOfPairsBesideOthers(t *testing.T) {
	p := func(from, to rune) api.Pair { return api.Pair{From: from, To: to} }
	wantFit(t,
		fitCase{"alike", lower(p(0xc0, 'a'), p(0xc0, 'b')), 1, api.ErrOrder},
		fitCase{"the same twice", lower(p(0xc0, 'a'), p(0xc1, 'b'), p(0xc1, 'b')), 2, api.ErrOrder},
		fitCase{"falling", lower(p(0xc0, 'a'), p(0xc2, 'b'), p(0xc1, 'b')), 2, api.ErrOrder},
		fitCase{"below all", lower(p(0xc0, 'a'), p(0xc2, 'b'), p(0x80, 'b')), 2, api.ErrOrder},
		fitCase{"its own From", lower(p(0xc0, 0xe0), p(0xc1, 0xc1)), 1, api.ErrThere},
		fitCase{"a From ahead", lower(p(0xc0, 0xe0), p(0xc1, 0xc0)), 1, api.ErrThere},
		fitCase{"a From behind", lower(p(0xc0, 0xc1), p(0xc1, 0xe1)), 0, api.ErrThere},
		fitCase{"the last From", lower(p(0xc0, 0xe0), p(0xc1, 0xc3), p(0xc2, 0xe2), p(0xc3, 'a')), 1, api.ErrThere},
		fitCase{"round about", lower(p(0xc0, 0xc1), p(0xc1, 0xc0)), 0, api.ErrThere},
		fitCase{"two Tos alike", lower(p(0xc0, 'a'), p(0xc1, 'a')), 0, nil},
	)
}

// P10.1: of several faults the first is told.
func TestFitOfSeveralFaults(t *testing.T) {
	changes := []fitCase{
		{"a row of the norm", func(x *api.Tables) { x.Norm.Rows[8].To = nil }, 8, api.ErrForm},
		{"an excluded rune", func(x *api.Tables) { x.Norm.Excluded[0] = -1 }, 0, api.ErrRange},
		{"marks", func(x *api.Tables) { x.Props.Marks[2].Hi = -1 }, 2, api.ErrRange},
		{"a plain second", func(x *api.Tables) { x.Norm.Rows[10].To[1] = '!' }, 10, api.ErrKind},
		{"plain classes", func(x *api.Tables) { x.Norm.Classes[0].Lo = 5 }, 0, api.ErrKind},
		{"a From that may not be", func(x *api.Tables) { x.Lower[5].From = 5 }, 5, api.ErrRange},
		{"a From that falls", func(x *api.Tables) { x.Lower[7].From = 0x81 }, 7, api.ErrOrder},
		{"a To that may not be", func(x *api.Tables) { x.Lower[9].To = 'A' }, 9, api.ErrRange},
		{"a To that is a From", func(x *api.Tables) { x.Lower[3].To = 0xd0 }, 3, api.ErrThere},
	}
	for i, first := range changes {
		for _, then := range changes[i:] {
			both := func(x *api.Tables) { then.change(x); first.change(x) }
			wantFit(t, fitCase{first.name + ", and " + then.name, both, first.place, first.named})
		}
	}
	both := func(x *api.Tables) { x.Lower[7] = api.Pair{From: 0x81, To: 'A'} }
	wantFit(t, fitCase{"a pair with both faults", both, 7, api.ErrRange})
}

// fitOfPairs is what Fit is to say of tables that have pairs alone.
func fitOfPairs(l []api.Pair) (int, error) {
	right := func(r rune) bool { return 0 <= r && r < 0xd800 || 0xe000 <= r && r < 0x110000 }
	for i, p := range l {
		if !right(p.From) || p.From < 0x80 || !right(p.To) || strings.ContainsRune("ABCDEFGHIJKLMNOPQRSTUVWXYZ", p.To) {
			return i, api.ErrRange
		}
		for _, ahead := range l[:i] {
			if ahead.From >= p.From {
				return i, api.ErrOrder
			}
		}
	}
	for i, p := range l {
		for _, other := range l {
			if other.From == p.To {
				return i, api.ErrThere
			}
		}
	}
	return 0, nil
}

// P10.1: all lists of up to three telling pairs.
func TestFitOfShortLists(t *testing.T) {
	var telling []api.Pair
	for _, from := range []rune{0x7f, 0x80, 0x81, 0x82, 0x10ffff, 0x110000} {
		for _, to := range []rune{-1, 'Z', 'z', 0x80, 0x81, 0x82, 0xdfff, 0x10ffff} {
			telling = append(telling, api.Pair{From: from, To: to})
		}
	}
	eachOf(telling, 3, func(l []api.Pair) {
		place, named := fitOfPairs(l)
		wantFault(t, fmt.Sprintf("Fit of %x", l), label.Fit(api.Tables{Lower: l}), place, named)
	})
}

// wantSmall fails unless runes are turned to these, by the tests' own words too.
func wantSmall(t *testing.T, x api.Tables, l, want []rune) {
	t.Helper()
	if own := turnedSmall(x, l); !slices.Equal(own, want) {
		t.Errorf("%x: by the tests' own words %x, want %x", l, own, want)
	}
	if got := label.Small(x, l); !slices.Equal(got, want) {
		t.Errorf("Small(%x): %x, want %x", l, got, want)
	}
}

// P10.2: Small at what the chapter names.
func TestSmall(t *testing.T) {
	x := tables()
	for _, c := range []struct{ from, to string }{
		{"", ""}, {"abcdefghijklmnopqrstuvwxyz", "abcdefghijklmnopqrstuvwxyz"}, {"ABCDEFGHIJKLMNOPQRSTUVWXYZ", "abcdefghijklmnopqrstuvwxyz"},
		{"@AZ[`az{", "@az[`az{"}, {"0-_ \x00\x7f", "0-_ \x00\x7f"}, {"\u00c0\u00d6\u00d7\u00d8\u00de\u00df\u00ff", "\u00e0\u00f6\u00d7\u00f8\u00fe\u00df\u00ff"},
		{"\U00010400\U00010427\U00010428", "\U00010428\U0001044f\U00010428"}, {"\u0391\u03a1\u03a2", "\u03b1\u03c1\u03a2"}, {"\uff38\uff0d\u212a", "x-k"},
		{"U\u0308", "\u00fc"}, {"u\u0308", "\u00fc"}, {"\u00dc", "\u00fc"}, {"E\u0301E", "\u00e9e"}, {"\u00c9\u0301", "\u00e9\u0301"}, {"\u212b", "\u00e5"}, {"A\u030a", "\u00e5"},
		{"S\u0323\u0307", "\u1e69"}, {"S\u0307\u0323", "\u1e69"}, {"\u1e62\u0307", "\u1e69"}, {"\u1e68", "\u1e69"}, {"a\u0301\u0323", "a\u0323\u0301"},
		{"\u0958", "\u0915\u093c"}, {"\u1112\u1161\u11ab", "\ud55c"}, {"\uf900", "\u8c48"}, {"B\u00dcCHER", "b\u00fccher"}, {"\uff35\u0308", "\u00fc"},
	} {
		wantSmall(t, x, []rune(c.from), []rune(c.to))
	}
	wantSmall(t, x, []rune{-1, 'A', 0xd800, 0x110000}, []rune{-1, 'a', 0xd800, 0x110000})
	wantSmall(t, api.Tables{}, []rune{'A', 0xc9, 'E', 0x301}, []rune{'a', 0xc9, 'e', 0x301})
	// What is composed isn't turned once more, nor what it was taken apart to.
	x.Lower = []api.Pair{{From: 0xe9, To: 0x3b1}}
	wantSmall(t, x, []rune{'E', 0x301, 0xe9, 0x212a, 0x212b}, []rune{0xe9, 0x3b1, 'K', 0xc5})
}

// P10.2: Small of each rune.
func TestSmallOfEachRune(t *testing.T) {
	x := tables()
	small := map[rune]rune{}
	for _, p := range x.Lower {
		small[p.From] = p.To
	}
	for r := 'A'; r <= 'Z'; r++ {
		small[r] = rune(strings.ToLower(string(r))[0])
	}
	for r := rune(-2); r <= api.MaxRune+2; r++ {
		want, ok := small[r]
		if !ok {
			want = r
		}
		if got := label.Small(x, []rune{r}); !slices.Equal(got, comp.All(x.Norm, []rune{want})) {
			t.Errorf("Small(%x): %x", r, got)
		}
	}
}

// checkCase is a label, and what Check is to say of it.
type checkCase struct {
	l     []rune
	place int
	named error
}

// wantCheck fails unless that is said of labels, by the tests' own words too.
func wantCheck(t *testing.T, x api.Tables, cases ...checkCase) {
	t.Helper()
	for _, c := range cases {
		if place, named := faultOf(x, c.l); place != c.place || named != c.named {
			t.Errorf("%x: by the tests' own words %v at %d, want %v at %d", c.l, named, place, c.named, c.place)
		}
		wantLabel(t, x, c.l)
	}
}

// text is a text's runes.
func text(s string) []rune { return []rune(s) }

// P10.2: the empty label.
func TestCheckEmpty(t *testing.T) {
	for _, x := range []api.Tables{{}, tables(), generous()} {
		wantCheck(t, x, checkCase{nil, 0, api.ErrEmpty}, checkCase{[]rune{}, 0, api.ErrEmpty})
	}
}

// P10.2: labels that aren't their composed form, which is shorter, longer, or as long.
func TestCheckComposed(t *testing.T) {
	for _, x := range []api.Tables{tables(), generous()} {
		wantCheck(t, x,
			checkCase{text("e\u0301"), 0, api.ErrNorm}, checkCase{text("ae\u0301"), 1, api.ErrNorm}, checkCase{text("abcu\u0308d"), 3, api.ErrNorm},
			checkCase{text("s\u0323\u0307"), 0, api.ErrNorm}, checkCase{text("\u00e9\u1e63\u0307b"), 1, api.ErrNorm},
			checkCase{text("\u1112\u1161\u11ab"), 0, api.ErrNorm}, checkCase{text("a\uac00\u11a8"), 1, api.ErrNorm},
			checkCase{text("\u0958"), 0, api.ErrNorm}, checkCase{text("\u0915\u0958\u0958"), 1, api.ErrNorm}, checkCase{text("\u05d0\ufb1d"), 1, api.ErrNorm},
			checkCase{text("\uf900"), 0, api.ErrNorm}, checkCase{text("ab\uf900"), 2, api.ErrNorm}, checkCase{text("\u212a"), 0, api.ErrNorm},
			checkCase{text("a\u0301\u0323"), 1, api.ErrNorm}, checkCase{text("ab\u0301\u0323\u0301"), 2, api.ErrNorm},
			checkCase{text("e\u0301\u0323"), 0, api.ErrNorm}, checkCase{text("e\u0323\u0301"), 0, api.ErrNorm}, checkCase{text("\u00e9\u0323"), 0, nil}, checkCase{text("a\u0323\u0301"), 0, nil},
			checkCase{text("\u00e9"), 0, nil}, checkCase{text("\u1e69"), 0, nil}, checkCase{text("\ud55c"), 0, nil}, checkCase{text("\u0915\u093c"), 0, nil},
		)
	}
}

// P10.2: hyphens, at either end and within.
func TestCheckHyphens(t *testing.T) {
	for _, x := range []api.Tables{tables(), generous()} {
		wantCheck(t, x,
			checkCase{text("-"), 0, api.ErrHyphen}, checkCase{text("--"), 0, api.ErrHyphen}, checkCase{text("---"), 0, api.ErrHyphen}, checkCase{text("----"), 0, api.ErrHyphen},
			checkCase{text("-a"), 0, api.ErrHyphen}, checkCase{text("-a-"), 0, api.ErrHyphen}, checkCase{text("-a--"), 0, api.ErrHyphen}, checkCase{text("-\u00e9"), 0, api.ErrHyphen},
			checkCase{text("a-"), 1, api.ErrHyphen}, checkCase{text("a--"), 2, api.ErrHyphen}, checkCase{text("ab--"), 3, api.ErrHyphen}, checkCase{text("abcdefg-"), 7, api.ErrHyphen},
			checkCase{text("\u00e9-"), 1, api.ErrHyphen}, checkCase{text("ab--c-"), 5, api.ErrHyphen}, checkCase{text("ab-"), 2, api.ErrHyphen},
			checkCase{text("ab--c"), 2, api.ErrHyphen}, checkCase{text("xn--abc"), 2, api.ErrHyphen}, checkCase{text("ab---c"), 2, api.ErrHyphen}, checkCase{text("a---b"), 2, api.ErrHyphen},
			checkCase{text("\u00e9\u00e9--\u00e9"), 2, api.ErrHyphen}, checkCase{text("12--3"), 2, api.ErrHyphen},
			checkCase{text("a--b"), 0, nil}, checkCase{text("a-b"), 0, nil}, checkCase{text("abc--d"), 0, nil}, checkCase{text("ab-c-d"), 0, nil}, checkCase{text("ab-c"), 0, nil},
			checkCase{text("abc-d"), 0, nil}, checkCase{text("a-b-c-d-e"), 0, nil}, checkCase{text("abcd--e"), 0, nil}, checkCase{text("\u00e9--\u00e9"), 0, nil},
		)
	}
}

// P10.2: a mark as the first rune, and elsewhere.
func TestCheckMarks(t *testing.T) {
	x := tables()
	wantCheck(t, x,
		checkCase{text("\u0301"), 0, api.ErrClass}, checkCase{text("\u0301a"), 0, api.ErrClass}, checkCase{text("\u093c\u0915"), 0, api.ErrClass}, checkCase{text("\u094da"), 0, api.ErrClass},
		checkCase{text("a\u0301"), 0, nil}, checkCase{text("aa\u0301\u0301"), 0, nil}, checkCase{text("\u0915\u094d"), 0, nil},
	)
	x.Props.Marks = append([]api.Range{one('a', 0)}, x.Props.Marks...)
	wantFault(t, "tables with a plain mark", label.Fit(x), 0, nil)
	wantCheck(t, x, checkCase{text("abc"), 0, api.ErrClass}, checkCase{text("bac"), 0, nil}, checkCase{text("a_"), 0, api.ErrClass})
	x = generous()
	wantCheck(t, x, checkCase{text("\u0301a"), 0, nil})
}

// P10.2: runes that are barred, even where their class is Pvalid.
func TestCheckBarred(t *testing.T) {
	x := generous()
	wantCheck(t, x,
		checkCase{text("\u3002"), 0, api.ErrClass}, checkCase{text("a\u3002b"), 1, api.ErrClass}, checkCase{text("\uff0e"), 0, api.ErrClass}, checkCase{text("ab\uff0e"), 2, api.ErrClass},
		checkCase{text("\uff61"), 0, api.ErrClass}, checkCase{text("abc\uff61"), 3, api.ErrClass}, checkCase{text("a\u3002\uff61"), 1, api.ErrClass},
		checkCase{text("\x7f"), 0, api.ErrClass}, checkCase{text("a\x7f"), 1, api.ErrClass}, checkCase{text("\u0080"), 0, nil}, checkCase{text("a\u0080b"), 0, nil},
		checkCase{text("\u3001\u3003\uff0d\uff0f\uff60\uff62"), 0, nil}, checkCase{text("a.b"), 1, api.ErrClass}, checkCase{text("a_b"), 1, api.ErrClass}, checkCase{text("ab "), 2, api.ErrClass},
		checkCase{text("A"), 0, api.ErrClass}, checkCase{text("abZ"), 2, api.ErrClass}, checkCase{text("@"), 0, api.ErrClass}, checkCase{text("["), 0, api.ErrClass},
		checkCase{text("`"), 0, api.ErrClass}, checkCase{text("{"), 0, api.ErrClass}, checkCase{text("/"), 0, api.ErrClass}, checkCase{text(":"), 0, api.ErrClass}, checkCase{text("\x00"), 0, api.ErrClass},
		checkCase{text("\u00c9"), 0, api.ErrClass}, checkCase{text("abc\u00c9"), 3, api.ErrClass}, checkCase{text("\u00c8\u00ca"), 0, nil}, checkCase{text("az09-z"), 0, nil},
		checkCase{[]rune{'a', -1}, 1, api.ErrClass}, checkCase{[]rune{0xd800, 'a'}, 0, api.ErrClass}, checkCase{[]rune{'a', 0xdfff}, 1, api.ErrClass}, checkCase{[]rune{'a', 'b', 0x110000}, 2, api.ErrClass},
		checkCase{[]rune{math.MinInt32}, 0, api.ErrClass}, checkCase{[]rune{'a', math.MaxInt32, 'A'}, 1, api.ErrClass}, checkCase{[]rune{0x10ffff}, 0, nil},
	)
	x = tables()
	wantCheck(t, x,
		checkCase{text("\u0378"), 0, api.ErrClass}, checkCase{text("a\u0379"), 1, api.ErrClass}, checkCase{text("a\u0640"), 1, api.ErrClass}, checkCase{text("\u00ad"), 0, api.ErrClass},
		checkCase{text("a\u1100"), 1, api.ErrClass}, checkCase{text("a\u0080"), 1, api.ErrClass}, checkCase{text("\u00df"), 0, nil}, checkCase{text("stra\u00dfe"), 0, nil},
		checkCase{text("ab\u0391"), 2, api.ErrClass}, checkCase{text("\U00010400"), 0, api.ErrClass}, checkCase{text("\U00010428"), 0, nil},
	)
	x.Props.Exceptions = append([]api.Range{one('d', api.Disallowed), one('u', api.Unassigned)}, x.Props.Exceptions...)
	wantCheck(t, x, checkCase{text("abcd"), 3, api.ErrClass}, checkCase{text("tu"), 1, api.ErrClass}, checkCase{text("tv"), 0, nil})
}

// P10.2: runes that don't go with their neighbours.
func TestCheckContexts(t *testing.T) {
	x := tables()
	wantCheck(t, x,
		checkCase{text("l\u00b7l"), 0, nil}, checkCase{text("a\u00b7l"), 1, api.ErrContext}, checkCase{text("\u00b7"), 0, api.ErrContext}, checkCase{text("l\u00b7l\u00b7"), 3, api.ErrContext},
		checkCase{text("\u0375\u03b1"), 0, nil}, checkCase{text("\u03b1\u0375"), 1, api.ErrContext}, checkCase{text("\u05d0\u05f3"), 0, nil}, checkCase{text("\u05f3\u05d0"), 0, api.ErrContext},
		checkCase{text("\u0915\u094d\u200d"), 0, nil}, checkCase{text("\u0915\u200d"), 1, api.ErrContext}, checkCase{text("ab\u200c"), 2, api.ErrContext},
		checkCase{text("\u30a1\u30fb"), 0, nil}, checkCase{text("a\u30fb"), 1, api.ErrContext}, checkCase{text("\u0627\u0660"), 0, nil}, checkCase{text("\u0627\u0660\u06f0"), 1, api.ErrContext},
		checkCase{text("\u0647\u200c\u0627"), 0, nil}, checkCase{text("\u0627\u200c\u0627"), 1, api.ErrContext},
	)
	x.Props.Exceptions = append([]api.Range{one('c', api.ContextJ), one('d', api.ContextO)}, x.Props.Exceptions...)
	wantCheck(t, x, checkCase{text("abc"), 2, api.ErrContext}, checkCase{text("d"), 0, api.ErrContext}, checkCase{text("ab"), 0, nil})
}

// P10.2: labels of the right, with and without breaches, and others with breaches that count there alone.
func TestCheckSides(t *testing.T) {
	x := tables()
	wantCheck(t, x,
		checkCase{text("\u05d0\u05d1"), 0, nil}, checkCase{text("\u05d01"), 0, nil}, checkCase{text("\u05d0-1"), 0, nil}, checkCase{text("\u0627\u064b"), 0, nil}, checkCase{text("\u0627\u0660"), 0, nil},
		checkCase{text("1\u05d0"), 0, api.ErrBidi}, checkCase{text("\u05d0a"), 1, api.ErrBidi}, checkCase{text("\u05d0\u05d1c\u05d0"), 2, api.ErrBidi}, checkCase{text("a\u05d0"), 1, api.ErrBidi},
		checkCase{text("ab\u0627"), 2, api.ErrBidi}, checkCase{text("\u06271\u0660"), 2, api.ErrBidi}, checkCase{text("\u0660\u0627"), 0, api.ErrBidi}, checkCase{text("\u0660"), 0, api.ErrBidi},
		checkCase{text("a\u0660"), 1, api.ErrBidi}, checkCase{text("\u05d0\u0647\u0915\u094d\u200d"), 2, api.ErrBidi}, checkCase{text("\u0647\u200c\u0627"), 0, nil},
		checkCase{text("1"), 0, nil}, checkCase{text("1a"), 0, nil}, checkCase{text("123"), 0, nil}, checkCase{text("1-a"), 0, nil}, checkCase{text("\u0915\u094d\u200d"), 0, nil},
	)
	wantCheck(t, x, checkCase{text("\u05d0\u0915\u094d\u200d"), 1, api.ErrBidi}, checkCase{text("a\u094d\u200d"), 0, nil}, checkCase{text("\u05d0\u200d"), 1, api.ErrContext})
	x.Props.Exceptions = append(x.Props.Exceptions, one(0x2ff00, api.Pvalid))
	x.Props.Directions = append(x.Props.Directions, one(0x2ff00, api.DirON))
	wantCheck(t, x, checkCase{[]rune{0x5d0, 0x5d1, 0x2ff00, 0x5b4}, 2, api.ErrBidi}, checkCase{[]rune{'a', 0x2ff00}, 0, nil}, checkCase{[]rune{0x2ff00}, 0, nil})
}

// many is a rune so many times, with others behind.
func many(r rune, n int, behind ...rune) []rune {
	return append(slices.Repeat([]rune{r}, n), behind...)
}

// ofForm is the label of a row that grows whose plain form has so many bytes.
func ofForm(t *testing.T, bytes int, grow func(n int) []rune) []rune {
	t.Helper()
	for n := 1; ; n++ {
		form, e := formOf(grow(n))
		if e != nil || len(form) > bytes {
			t.Fatalf("no label whose form has %d bytes", bytes)
		}
		if len(form) == bytes {
			return grow(n)
		}
	}
}

// P10.2: plain forms of 63 bytes, and of more.
func TestCheckLong(t *testing.T) {
	x := tables()
	wantCheck(t, x, checkCase{many('a', 63), 0, nil}, checkCase{many('a', 64), 0, api.ErrLong}, checkCase{many('1', 63), 0, nil}, checkCase{many('1', 64), 0, api.ErrLong})
	for _, n := range []int{65, 119, 120, 121, 253, 1000, 20000} {
		wantCheck(t, x, checkCase{many('z', n), 0, api.ErrLong}, checkCase{many('z', n, 0xfc), 0, api.ErrLong}, checkCase{many(0x4e2d, n), 0, api.ErrLong})
	}
	for _, grow := range []func(int) []rune{
		func(n int) []rune { return many('a', n, 0xfc) }, func(n int) []rune { return many('a', n, 0xdf, 0xfc, 0x4e2d) }, func(n int) []rune { return many('a', n, 0xac00, 'b') },
		func(n int) []rune { return many(0x3b1, n) }, func(n int) []rune { return many(0x4e2d, n) }, func(n int) []rune { return many(0x5d0, n) },
	} {
		wantCheck(t, x, checkCase{ofForm(t, 63, grow), 0, nil}, checkCase{ofForm(t, 64, grow), 0, api.ErrLong}, checkCase{ofForm(t, 62, grow), 0, nil})
	}
	for _, n := range []int{0, 1, 58, 59, 60, 63, 64, 118, 119, 120, 121} {
		wantLabel(t, x, many('a', n))
		wantLabel(t, x, many('a', n, 0xfc))
		wantLabel(t, x, many(0x3b1, n))
		wantLabel(t, x, many(0x10428, n))
	}
}

// P10.2: labels in which several of the chapter's lines hold at once, each line with each other one with which it can, of which the first is told.
func TestCheckSeveral(t *testing.T) {
	x := tables()
	x.Props.Marks = append([]api.Range{one('-', 0), one('m', 0)}, x.Props.Marks...)
	wantFault(t, "tables", label.Fit(x), 0, nil)
	telling := [][]rune{
		text("a"), text("-"), text("--"), text("m"), text("e\u0301"), {0x301}, {0x958}, text("_"), {0x3002}, {0xc9}, {0xb7}, text("l"), {0x5d0}, text("1"), {0x660}, {0x6f0}, {0x200d}, many('a', 60), many(0x4e2d, 60),
	}
	var seen [manyLines][manyLines]bool
	eachOf(telling, 4, func(parts [][]rune) {
		l := slices.Concat(parts...)
		if len(l) > 200 || len(parts) > 3 && len(l) > 70 {
			return
		}
		wantLabel(t, x, l)
		at := lines(x, l)
		for i := range at {
			for j := range at {
				if at[i] >= 0 && at[j] >= 0 {
					seen[i][j] = true
				}
			}
		}
	})
	for i := range manyLines {
		for j := range i + 1 {
			// Of no rune nothing else can hold.
			if can := i == j || j != isEmpty; seen[i][j] != can {
				t.Errorf("lines %d and %d at once: %t", j, i, seen[i][j])
			}
		}
	}
}

// P10.2: each rune alone, and within.
func TestCheckEachRune(t *testing.T) {
	for _, x := range []api.Tables{tables(), generous()} {
		for r := rune(-2); r <= api.MaxRune+2; r++ {
			if 0x20000 <= r && r < 0x10ff00 && r%17 > 0 {
				continue
			}
			wantLabel(t, x, []rune{r})
			if r < 0x3000 {
				wantLabel(t, x, []rune{'l', r, 'l'})
				wantLabel(t, x, []rune{0x5d0, r})
			}
		}
	}
}

// P10.2: plain forms of labels of plain runes alone, of one that isn't, of none that is.
func TestPlain(t *testing.T) {
	x := tables()
	for _, c := range []struct{ s, want string }{
		{"a", "a"}, {"example", "example"}, {"a-1", "a-1"}, {"0", "0"}, {"a--b", "a--b"}, {"b\u00fccher", "xn--bcher-kva"}, {"\u00fc", "xn--tda"}, {"\u00e9", "xn--9ca"},
		{"a\u0301b", "xn--ab-8tb"}, {"\u00fcx", "xn--x-dha"}, {"stra\u00dfe", "xn--strae-oqa"}, {"\u4e2d\u6587", "xn--fiq228c"}, {"\u03b1\u03b2\u03b3", "xn--mxacd"}, {"\u05d0\u05d1", "xn--4dbc"}, {"l\u00b7l", "xn--ll-0ea"},
	} {
		got, e := label.Plain(x, text(c.s))
		if got != c.want || e != nil {
			t.Errorf("Plain(%q): %q, %s, want %q", c.s, got, told(e), c.want)
		}
		wantLabel(t, x, text(c.s))
		if l, e := label.Runes(x, c.want); string(l) != c.s || e != nil {
			t.Errorf("Runes(%q): %x, %s", c.want, l, told(e))
		}
	}
	for _, c := range []checkCase{{nil, 0, api.ErrEmpty}, {text("e\u0301"), 0, api.ErrNorm}, {text("ab--c"), 2, api.ErrHyphen}, {text("abC"), 2, api.ErrClass}, {text("a\u00b7"), 1, api.ErrContext}, {text("a\u05d0"), 1, api.ErrBidi}, {many('a', 64), 0, api.ErrLong}} {
		got, e := label.Plain(x, c.l)
		wantFault(t, fmt.Sprintf("Plain(%x)", c.l), e, c.place, c.named)
		if got != "" {
			t.Errorf("Plain(%x): %q beside an error", c.l, got)
		}
	}
}

// readCase is a text, and what Runes is to say of it.
type readCase struct {
	s     string
	place int
	named error
}

// wantReadAs fails unless that is said of texts, by the tests' own words too.
func wantReadAs(t *testing.T, x api.Tables, cases ...readCase) {
	t.Helper()
	for _, c := range cases {
		if _, place, named := readOf(x, c.s); place != c.place || named != c.named {
			t.Errorf("%q: by the tests' own words %v at %d, want %v at %d", c.s, named, place, c.named, c.place)
		}
		wantRead(t, x, c.s)
	}
}

// P10.3: bytes that aren't plain, ahead of all else.
func TestRunesOfBytes(t *testing.T) {
	wantReadAs(t, tables(),
		readCase{"\x80", 0, api.ErrByte}, readCase{"\xff", 0, api.ErrByte}, readCase{"a\xc3\xa9", 1, api.ErrByte}, readCase{"-\xc3", 1, api.ErrByte}, readCase{"_a\xc3\xa9\xff", 2, api.ErrByte},
		readCase{"xn--\xc3\xa9", 4, api.ErrByte}, readCase{"xn--a!\xff", 6, api.ErrByte}, readCase{"xn--kv\x80", 6, api.ErrByte}, readCase{"xn-\xff-", 3, api.ErrByte}, readCase{"\u3002", 0, api.ErrByte},
		readCase{"a\x7f", 1, api.ErrClass}, readCase{"xn--" + strings.Repeat("a", 130) + "\x80", 134, api.ErrByte}, readCase{strings.Repeat("a", 100) + "\xf4\x90", 100, api.ErrByte},
	)
	for b := range 256 {
		wantRead(t, tables(), string([]byte{byte(b)}))
		wantRead(t, tables(), string([]byte{'a', byte(b), 'c'}))
		wantRead(t, tables(), "xn--b"+string([]byte{byte(b)})+"cher-kva")
	}
}

// P10.3: layer 6's errors, their places counted in the text.
func TestRunesOfWrongPunycode(t *testing.T) {
	surrogate, high := puny.Digits(0xd800-0x80, 72), puny.Digits(0x110000-0x80, 72)
	wantReadAs(t, tables(),
		readCase{"xn--" + strings.Repeat("a", 121), 4, api.ErrLong}, readCase{"xn--" + strings.Repeat("!", 121), 4, api.ErrLong}, readCase{"xn--" + strings.Repeat("!", 120), 4, api.ErrPuny},
		readCase{"xn--" + strings.Repeat("a", 120), 0, api.ErrClass}, readCase{"xn--" + strings.Repeat("a", 5000), 4, api.ErrLong},
		readCase{"xn---", 4, api.ErrPuny}, readCase{"xn---a", 4, api.ErrPuny}, readCase{"xn--!", 4, api.ErrPuny}, readCase{"xn--a!b", 5, api.ErrPuny}, readCase{"xn--ab-c_", 8, api.ErrPuny}, readCase{"xn--b-kva.", 9, api.ErrPuny},
		readCase{"xn--99999999", 11, api.ErrLong}, readCase{"xn--ab-99999999", 14, api.ErrLong},
		readCase{"xn--" + surrogate, 3 + len(surrogate), api.ErrRange}, readCase{"xn--" + high, 3 + len(high), api.ErrRange}, readCase{"xn--" + high + "!", 3 + len(high), api.ErrRange},
		readCase{"xn--kv", 6, api.ErrEnd}, readCase{"xn--bcher-kv", 12, api.ErrEnd}, readCase{"xn--9", 5, api.ErrEnd},
	)
}

// P10.3: Punycode that Encode doesn't write, or of plain runes alone.
func TestRunesOfOtherPunycode(t *testing.T) {
	wantReadAs(t, tables(),
		readCase{"xn--", 0, api.ErrPuny}, readCase{"xn--abc-", 0, api.ErrPuny}, readCase{"xn--a-", 0, api.ErrPuny}, readCase{"xn----", 0, api.ErrPuny}, readCase{"xn--a--", 0, api.ErrPuny}, readCase{"xn--A-", 0, api.ErrPuny},
		readCase{"xn--TDA", 0, api.ErrPuny}, readCase{"xn--tdA", 0, api.ErrPuny}, readCase{"xn--Tda", 0, api.ErrPuny}, readCase{"xn--bcher-KVA", 0, api.ErrPuny}, readCase{"xn--bcher-kvA", 0, api.ErrPuny},
		readCase{"xn--ll-0EA", 0, api.ErrPuny}, readCase{"xn--_-KVA", 0, api.ErrPuny}, readCase{"xn--" + strings.Repeat("A", 120), 0, api.ErrPuny},
		readCase{"xn--tda", 0, nil}, readCase{"xn--bcher-kva", 0, nil}, readCase{"xn--ll-0ea", 0, nil},
		readCase{"XN--TDA", 2, api.ErrHyphen}, readCase{"Xn--tda", 2, api.ErrHyphen}, readCase{"xN--tda", 2, api.ErrHyphen}, readCase{"xn-tda", 0, nil}, readCase{"xn--xn--tda", 3, api.ErrHyphen}, readCase{"axn--tda", 0, nil}, readCase{"yn--tda", 2, api.ErrHyphen},
	)
}

// coded is a label's Punycode behind the prefix, whether the label may be or not.
func coded(l ...rune) string {
	form, _ := formOf(l)
	return form
}

// P10.3: labels that may not be, of which Check tells.
func TestRunesOfWrongLabels(t *testing.T) {
	wantReadAs(t, tables(),
		readCase{"", 0, api.ErrEmpty}, readCase{"-", 0, api.ErrHyphen}, readCase{"-a", 0, api.ErrHyphen}, readCase{"ab-", 2, api.ErrHyphen}, readCase{"ab--c", 2, api.ErrHyphen}, readCase{"xn-", 2, api.ErrHyphen},
		readCase{"ABC", 0, api.ErrClass}, readCase{"aB", 1, api.ErrClass}, readCase{"a_b", 1, api.ErrClass}, readCase{"a.b", 1, api.ErrClass}, readCase{strings.Repeat("a", 64), 0, api.ErrLong},
		readCase{strings.Repeat("a", 63), 0, nil}, readCase{"xn--a", 0, api.ErrClass}, readCase{"xn--Bcher-kva", 0, api.ErrClass}, readCase{"xn--bCher-kva", 2, api.ErrClass},
		readCase{coded('e', 0x301), 0, api.ErrNorm}, readCase{coded('a', 0xe9, 'e', 0x301), 2, api.ErrNorm}, readCase{coded(0x958), 0, api.ErrNorm}, readCase{coded('-', 0xe9), 0, api.ErrHyphen}, readCase{coded('a', 0xe9, '-'), 2, api.ErrHyphen},
		readCase{coded(0xe9, 'a', '-', '-', 'a'), 2, api.ErrHyphen}, readCase{coded(0x301, 'a'), 0, api.ErrClass}, readCase{coded('a', 'b', 0xc9), 2, api.ErrClass}, readCase{coded('a', 'b', '_', 0xe9), 2, api.ErrClass}, readCase{coded('a', 0x3002), 1, api.ErrClass},
		readCase{coded('a', 0xb7, 'l'), 1, api.ErrContext}, readCase{coded('a', 'b', 0x5d0), 2, api.ErrBidi}, readCase{coded(many('a', 60, 0xfc)...), 0, api.ErrLong}, readCase{coded(many('a', 110, 0xfc)...), 0, api.ErrLong},
	)
}

// P10.3: all short texts of telling bytes, and such behind the prefix.
func TestRunesOfShortTexts(t *testing.T) {
	x := tables()
	telling := []byte("xna-AT09d\xc3")
	eachOf(telling, 4, func(b []byte) {
		wantRead(t, x, string(b))
		wantRead(t, x, "xn--"+string(b))
		wantRead(t, x, "xn--a-"+string(b))
	})
}

// P10.5: all short texts of digits behind the prefix, of each of which a label is read, or none.
func TestRunesOfDigits(t *testing.T) {
	for _, x := range []api.Tables{tables(), generous()} {
		eachOf([]byte("abcdefghijklmnopqrstuvwxyz0123456789"), 3, func(b []byte) { wantRead(t, x, "xn--"+string(b)) })
	}
}

// canonCase is a text, and what Canon is to say of it.
type canonCase struct {
	s, want string
	place   int
	named   error
}

// wantCanon fails unless that is said of texts, by the tests' own words too.
func wantCanon(t *testing.T, x api.Tables, cases ...canonCase) {
	t.Helper()
	for _, c := range cases {
		if form, place, named := meantOf(x, c.s); form != c.want || place != c.place || named != c.named {
			t.Errorf("%q: by the tests' own words %q, %v at %d, want %q, %v at %d", c.s, form, named, place, c.want, c.named, c.place)
		}
		wantMeant(t, x, c.s)
	}
}

// P10.4: the chapter's examples.
func TestExamples(t *testing.T) {
	wantCanon(t, tables(), canonCase{"B\u00dcCHER", "xn--bcher-kva", 0, nil}, canonCase{"a--b", "a--b", 0, nil}, canonCase{"ab--c", "", 2, api.ErrHyphen})
	x := api.Tables{Props: api.Props{Letters: []api.Range{one(0xfc, 0)}}, Lower: []api.Pair{{From: 0xdc, To: 0xfc}}}
	wantCanon(t, x, canonCase{"B\u00dcCHER", "xn--bcher-kva", 0, nil})
	x.Lower = nil
	wantCanon(t, x, canonCase{"B\u00dcCHER", "", 1, api.ErrClass}, canonCase{"B\u00fcCHER", "xn--bcher-kva", 0, nil})
}

// P10.4: texts that mean no label.
func TestCanonOfNothing(t *testing.T) {
	wantCanon(t, tables(),
		canonCase{"", "", 0, api.ErrEmpty}, canonCase{"\xff", "", 0, api.ErrByte}, canonCase{"a\xff", "", 1, api.ErrByte}, canonCase{"A\xc3", "", 1, api.ErrEnd}, canonCase{"xn--\xc3", "", 4, api.ErrEnd}, canonCase{"-\xc0\x80", "", 1, api.ErrByte},
		canonCase{"\xed\xa0\x80", "", 0, api.ErrByte}, canonCase{"-", "", 0, api.ErrHyphen}, canonCase{"A-", "", 1, api.ErrHyphen}, canonCase{"AB--C", "", 2, api.ErrHyphen}, canonCase{"XN-", "", 2, api.ErrHyphen}, canonCase{"xn--\u00e9", "", 2, api.ErrHyphen}, canonCase{"XN--\u00c9a", "", 2, api.ErrHyphen},
		canonCase{"a_b", "", 1, api.ErrClass}, canonCase{"a.b", "", 1, api.ErrClass}, canonCase{"a\u3002b", "", 1, api.ErrClass}, canonCase{"\u0301a", "", 0, api.ErrClass}, canonCase{"ae\u0301_", "", 2, api.ErrClass}, canonCase{"a\u00ad", "", 1, api.ErrClass},
		canonCase{"A\u00b7L", "", 1, api.ErrContext}, canonCase{"\u05d0A", "", 1, api.ErrBidi}, canonCase{strings.Repeat("A", 64), "", 0, api.ErrLong}, canonCase{strings.Repeat("\u00c9", 130), "", 0, api.ErrLong},
		canonCase{"xn--", "", 0, api.ErrPuny}, canonCase{"XN--", "", 0, api.ErrPuny}, canonCase{"xn--ABC-", "", 0, api.ErrPuny}, canonCase{"XN--KV", "", 6, api.ErrEnd}, canonCase{"xn--A", "", 0, api.ErrClass}, canonCase{"XN---", "", 4, api.ErrPuny}, canonCase{"Xn--B!", "", 5, api.ErrPuny},
		canonCase{"xn--" + strings.Repeat("A", 121), "", 4, api.ErrLong}, canonCase{coded('e', 0x301), "", 0, api.ErrNorm}, canonCase{coded('a', 'b', 0xc9), "", 2, api.ErrClass}, canonCase{strings.ToUpper(coded('a', 0x5d0)), "", 1, api.ErrBidi},
		canonCase{"\uff38\uff2e\uff0d\uff0dkv", "", 6, api.ErrEnd}, canonCase{"\u1fef", "", 0, api.ErrClass}, canonCase{"xn--a\u1fef", "", 5, api.ErrPuny},
	)
}

// P10.4: texts that mean one label.
func TestCanonOfOneLabel(t *testing.T) {
	x := tables()
	groups := [][]string{
		{"xn--bcher-kva", "b\u00fccher", "B\u00dcCHER", "bu\u0308cher", "BU\u0308CHER", "bU\u0308chEr", "XN--BCHER-KVA", "Xn--BcHer-kvA", "xn--bcher-KVA", "\uff38n\uff0d-bcher-kva", "\uff22\u00dcC\uff48er"},
		{"abc-1", "ABC-1", "aBc-1", "\uff21bC\uff0d1"},
		{"k", "K", "\u212a", "\uff2b", "\uff4b"},
		{"xn--1ig", "\u1e69", "\u1e68", "s\u0323\u0307", "s\u0307\u0323", "S\u0323\u0307", "S\u0307\u0323", "\u1e63\u0307", "\u1e62\u0307", "\uff33\u0307\u0323", "XN--1IG"},
		{"xn--5ca", "\u00e5", "\u00c5", "\u212b", "a\u030a", "A\u030a", "xn--5CA"},
		{"xn--6q8b", "\ud55c", "\u1112\u1161\u11ab", "\ud558\u11ab"},
		{"xn--11b2f", "\u0958", "\u0915\u093c"},
		{"xn--mxa", "\u03b1", "\u0391", "XN--MXA"},
		{"xn--hj8c", "\U00010400", "\U00010428"},
		{"l", "L"}, {"xn--ll-0ea", "l\u00b7l", "L\u00b7L", "XN--LL-0EA"},
	}
	for i, group := range groups {
		for _, s := range group {
			wantCanon(t, x, canonCase{s, group[0], 0, nil})
		}
		for j, other := range groups {
			for _, a := range group {
				for _, b := range other {
					if label.Same(x, a, b) != (i == j) {
						t.Errorf("Same(%q, %q): %t", a, b, i != j)
					}
				}
			}
		}
	}
}

// P10.4: Same of texts of which one or both mean no label.
func TestSameOfNothing(t *testing.T) {
	x := tables()
	none := []string{"", "-", "a\xff", "xn--", "xn--TDA-", "ab--c", "\u05d0a", "a.b", strings.Repeat("a", 64)}
	some := []string{"a", "\u00e9", "xn--9ca"}
	for _, a := range none {
		for _, b := range append(none, some...) {
			if label.Same(x, a, b) || label.Same(x, b, a) {
				t.Errorf("%q and %q are the same", a, b)
			}
		}
	}
	if label.Same(x, "a", "b") || !label.Same(x, "a", "A") || !label.Same(x, "\u00e9", "xn--9ca") || label.Same(x, "e", "\u00e9") {
		t.Error("Same of labels")
	}
}

// P10.4: all short texts of telling parts.
func TestCanonOfShortTexts(t *testing.T) {
	x := tables()
	telling := []string{"a", "E", "\u0301", "\u00c9", "-", "xn--", "XN", "9ca", "9CA", "\u00b7", "l", "\u05d0", "1", "\u212a", "\u0958", "_", "\xff", "\xc3"}
	eachOf(telling, 4, func(parts []string) { wantMeant(t, x, strings.Join(parts, "")) })
}

// P10.5: there and back, of all short labels.
func TestThereAndBack(t *testing.T) {
	x := tables()
	telling := []rune{'a', 'l', 'x', 'n', '1', '-', 0xe9, 0xb7, 0x301, 0x5d0, 0x660, 0x4e2d, 0xdf, 0x10428}
	many := 0
	eachOf(telling, 4, func(l []rune) {
		form, e := label.Plain(x, l)
		if e != nil {
			return
		}
		many++
		if back, e := label.Runes(x, form); !slices.Equal(back, l) || e != nil {
			t.Errorf("%x has the form %q, which is read as %x, %s", l, form, back, told(e))
		}
		wantCanonical(t, x, form)
	})
	if many < 5000 {
		t.Errorf("%d labels alone", many)
	}
}

// P10.5: there and back, of each rune, alone and behind a letter.
func TestEachRuneThereAndBack(t *testing.T) {
	for _, x := range []api.Tables{tables(), generous()} {
		for r := rune(0); r <= api.MaxRune; r++ {
			if r >= 0x3000 && r%13 > 0 {
				continue
			}
			l := []rune{'a', r}
			form, e := label.Plain(x, l)
			if e != nil {
				continue
			}
			if back, e := label.Runes(x, form); !slices.Equal(back, l) || e != nil {
				t.Errorf("%x has the form %q, which is read as %x, %s", l, form, back, told(e))
			}
			wantCanonical(t, x, form)
		}
	}
}

// ask calls all functions, and is what they answer.
func ask(x api.Tables, l []rune, s string) string {
	plain, plainFault := label.Plain(x, l)
	read, readFault := label.Runes(x, s)
	form, formFault := label.Canon(x, s)
	return fmt.Sprintf("%s; %x; %s; %q %s; %x %s; %q %s; %t", told(label.Fit(x)), label.Small(x, l), told(label.Check(x, l)), plain, told(plainFault),
		read, told(readFault), form, told(formFault), label.Same(x, s, string(l)))
}

// P1: whatever the tables, the labels and the texts are, the calls end, and give the same answer again.
func TestAnyArgumentsEnd(t *testing.T) {
	telling := []api.Range{
		one(0, 0), span(9, -9, -1), span(math.MinInt32, math.MaxInt32, math.MinInt), span('a', 'z', 9), span(0x80, 0x200d, 2),
		one(0x301, math.MaxInt), span(-5, 0x110000, 1), one(math.MaxInt32, 3),
	}
	rows := []api.Row{{From: -1}, {From: 'a', To: []rune{'b', 'a'}}, {From: 'b', To: []rune{'a', 'c', 'd'}}, {From: 'b', To: []rune{-1, 'b'}}, {From: 0xe9, To: []rune{0xe9, 0xe9}}, {From: 5}}
	pairs := []api.Pair{{From: 'x', To: -1}, {From: -1, To: 'x'}, {From: 0x80, To: 0x80}, {From: 0x80, To: 'A'}, {From: 'a', To: 0xd800}, {From: math.MinInt32, To: math.MaxInt32}}
	labels := [][]rune{nil, {'-'}, {'a', 'b', '-', '-'}, {math.MinInt32, -1, 'a', 0x80, 0xe9, 0xd800, 0x10ffff, 0x110000, 'x', math.MaxInt32}, many(0x301, 70), many(-1, 5), many('A', 200)}
	texts := []string{"", "\xff", "xn--", "xn--a", "xn--TDA", "XN--kv", "aaxn\u0080", "b\u00e9-", strings.Repeat("xn--", 50)}
	eachOf(telling, 2, func(ranges []api.Range) {
		for i := range len(rows) + 1 {
			x := api.Tables{
				Norm: api.Norm{Classes: ranges, Rows: rows[:i], Excluded: []rune{5, -1}},
				Props: api.Props{
					Exceptions: ranges, Unassigned: ranges, Joiners: ranges, OldHangul: ranges, Unstable: ranges, Ignorable: ranges,
					Letters: ranges, Joining: ranges, Scripts: ranges, Directions: ranges, Marks: ranges,
				},
				Lower: pairs[:i%len(pairs)],
			}
			for _, l := range labels {
				for _, s := range texts {
					if a, b := ask(x, l, s), ask(x, l, s); a != b {
						t.Errorf("%x, %x, %q: %s, then %s", x, l, s, a, b)
					}
				}
			}
		}
	})
}

// P1: long labels and texts.
func TestLong(t *testing.T) {
	x := tables()
	for _, l := range [][]rune{many('a', 50000), many(0xe9, 50000), many(0x5d0, 50000), many('-', 50000), many(0x301, 50000), slices.Repeat(text("e\u0301"), 20000)} {
		wantLabel(t, x, l)
		wantMeant(t, x, string(l))
		wantRead(t, x, string(l))
		wantRead(t, x, "xn--"+string(l))
	}
}

// withRoom is a copy of a list, with room behind it in which there is what would be seen if it were read.
func withRoom[T any](l []T, behind ...T) []T {
	return append(slices.Clone(l), behind...)[:len(l)]
}

// R4: nothing that is handed in is changed, and nothing behind a list's length is read.
func TestMemory(t *testing.T) {
	for _, row := range [][]rune{{'l', 0xb7}, {'e'}, {'a', 'b'}, {'A', 'b', '-'}, {0xc9, 'B'}, many('a', 63), {0x5d0}} {
		x, want := tables(), tables()
		x.Lower = withRoom(x.Lower, api.Pair{From: 0x20000, To: 'A'}, api.Pair{From: 'a', To: 'b'})
		x.Norm.Rows, x.Norm.Classes = withRoom(x.Norm.Rows, api.Row{From: 'a', To: []rune{'b'}}), withRoom(x.Norm.Classes, one('a', 5))
		for _, behind := range [][]rune{{'l'}, {0x301}, {'-', '-', '-'}, {'a'}} {
			l := withRoom(row, behind...)
			for _, s := range []string{"xn--bcher-kva", "B\u00dcCHER", "-", "\xff"} {
				if got := ask(x, l, s); got != ask(want, slices.Clone(row), s) {
					t.Errorf("%x, %q: %s", row, s, got)
				}
			}
			if whole := l[:len(row)+len(behind)]; !slices.Equal(whole, slices.Concat(row, behind)) {
				t.Errorf("changed to %x", whole)
			}
		}
		if fmt.Sprint(x) != fmt.Sprint(want) {
			t.Errorf("changed to %x", x)
		}
		if behind := x.Lower[len(x.Lower) : len(x.Lower)+2]; behind[0].From != 0x20000 || behind[1].From != 'a' {
			t.Errorf("changed to %x", behind)
		}
	}
}

// R4: what is answered may be written over and grown, and nothing else changes by it.
func TestAnswersAreNew(t *testing.T) {
	x := tables()
	l := text("abc")
	for _, answered := range []func() []rune{
		func() []rune { return label.Small(x, l) }, func() []rune { r, _ := label.Runes(x, "abc"); return r }, func() []rune { r, _ := label.Runes(x, "xn--bcher-kva"); return r },
	} {
		first := answered()
		want := slices.Clone(first)
		clear(first)
		_ = append(first[:1], 'z', 'z', 'z', 'z')
		if again := answered(); !slices.Equal(again, want) || string(l) != "abc" {
			t.Errorf("%x, then %x; %x", want, again, l)
		}
	}
	x.Lower[0].To = 'A'
	for _, fails := range []func() error{
		func() error { return label.Fit(x) }, func() error { return label.Check(x, text("a_")) }, func() error { return label.Check(x, text("a\u05d0")) },
		func() error { _, e := label.Plain(x, nil); return e }, func() error { _, e := label.Runes(x, "xn--kv"); return e }, func() error { _, e := label.Canon(x, "a\xff"); return e },
	} {
		var f *api.Fault
		if !errors.As(fails(), &f) {
			t.Fatal("no Fault")
		}
		want := *f
		*f = api.Fault{At: -5, Err: api.ErrFull}
		if e := fails(); !errors.As(e, &f) || *f != want {
			t.Errorf("%s, want %v", told(e), want)
		}
	}
}

// drawnPairs are pairs that are fit, of some of these runes.
func drawnPairs(d *rand.Rand, runes []rune) (l []api.Pair) {
	from := map[rune]bool{}
	for _, r := range runes {
		from[r] = r >= 0x80 && utf.Right(r) && d.Intn(4) == 0
	}
	for _, r := range runes {
		to := runes[d.Intn(len(runes))]
		if from[r] && !from[to] && utf.Right(to) && (to < 'A' || to > 'Z') {
			l = append(l, api.Pair{From: r, To: to})
		}
	}
	return l
}

// drawn are fit tables that say whatever of the runes, a label, and a text.
func drawn(d *rand.Rand) (x api.Tables, l []rune, s string) {
	runes := []rune{'-', '-', '0', 'A', 'E', 'a', 'a', 'e', 'l', 'n', 'x', 0xad, 0xb7, 0xc9, 0xe9, 0x301, 0x323, 0x5d0, 0x660, 0x6f0, 0x915, 0x93c, 0x958, 0x1e69, 0x200d, 0x3002, 0x4e2d, 0xac00, 0x10428}
	table := func(most int) (l []api.Range) {
		for i, r := range runes {
			if (i == 0 || r > runes[i-1]) && d.Intn(3) == 0 {
				l = append(l, one(r, 1+d.Intn(most)))
			}
		}
		return l
	}
	x.Norm = norm()
	if d.Intn(3) == 0 {
		x.Norm.Excluded = nil
	}
	x.Props = api.Props{
		Exceptions: table(api.Pvalid), Unassigned: table(1), Joiners: table(1), Unstable: table(1), Letters: []api.Range{span(0, api.MaxRune, 0)},
		Joining: table(api.JoinT), Scripts: table(api.Han), Directions: table(api.DirBN), Marks: table(1),
	}
	if d.Intn(2) == 0 {
		x.Props.Unassigned, x.Props.Unstable, x.Props.Joiners = nil, nil, nil
	}
	x.Lower = drawnPairs(d, slices.Compact(slices.Clone(runes)))
	for range d.Intn(12) {
		l = append(l, runes[d.Intn(len(runes))])
	}
	if d.Intn(20) == 0 {
		l = append(l, many(runes[d.Intn(len(runes))], 40+d.Intn(100))...)
	}
	s = string(l)
	if code, e := puny.Encode(l); e == nil && d.Intn(2) == 0 {
		s = "xn--" + code
	}
	return x, l, s
}

// wantDrawn holds all functions against the chapter's words.
func wantDrawn(t *testing.T, seed int64) {
	t.Helper()
	d := rand.New(rand.NewSource(seed))
	x, l, s := drawn(d)
	wantFault(t, fmt.Sprintf("seed %d", seed), label.Fit(x), 0, nil)
	for _, of := range []api.Tables{x, tables()} {
		small := turnedSmall(of, l)
		wantSmall(t, of, l, small)
		wantLabel(t, of, l)
		wantLabel(t, of, small)
		wantRead(t, of, s)
		wantMeant(t, of, s)
		wantMeant(t, of, strings.ToUpper(s))
		if form, e := label.Plain(of, small); e == nil {
			wantRead(t, of, form)
			wantCanonical(t, of, form)
		}
	}
}

func TestDrawn(t *testing.T) {
	for seed := range int64(8000) {
		wantDrawn(t, seed)
	}
}

func FuzzDrawn(f *testing.F) {
	for seed := range int64(20) {
		f.Add(seed)
	}
	f.Fuzz(func(t *testing.T, seed int64) { wantDrawn(t, seed) })
}
