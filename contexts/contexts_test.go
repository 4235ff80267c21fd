package contexts_test

import (
	"errors"
	"fmt"
	"math"
	"math/rand"
	"regexp"
	"slices"
	"strings"
	"testing"

	"eponym/api"
	"eponym/classes"
	"eponym/contexts"
	"eponym/decomp"
)

// wantFault fails unless the error is just a Fault of that named error at that place.
func wantFault(t *testing.T, what string, e error, place int, named error) {
	t.Helper()
	if named == nil {
		if e != nil {
			t.Errorf("%s: %v, want no error", what, e)
		}
		return
	}
	var f *api.Fault
	if !errors.As(e, &f) {
		t.Errorf("%s: %v is no Fault", what, e)
		return
	}
	if f.At != place || !errors.Is(e, named) {
		t.Errorf("%s: %q at %d, want %q at %d", what, f.Err, f.At, named, place)
	}
}

// one is a range of one rune.
func one(r rune, value int) api.Range { return api.Range{Lo: r, Hi: r, Value: value} }

// span is a range of runes.
func span(lo, hi rune, value int) api.Range { return api.Range{Lo: lo, Hi: hi, Value: value} }

// Runes of each of the things that rules ask for, and the neighbours of these.
const (
	virama   = 0x94d
	mark     = 0x93c   // of the class 7
	accent   = 0x301   // of the class 230
	heh      = 0x647   // JoinD
	alef     = 0x627   // JoinR
	heth     = 0x10acd // JoinL
	fatha    = 0x64e   // JoinT
	kasra    = 0x650   // JoinT
	alpha    = 0x3b1
	bet      = 0x5d1
	hiragana = 0x3042
	katakana = 0x30a2
	han      = 0x4e2d
)

// tables are some of what Unicode tells of runes.
func tables() api.Tables {
	return api.Tables{
		Norm: api.Norm{
			Rows:     []api.Row{{From: 0xe9, To: []rune{'e', accent}}},
			Classes:  []api.Range{one(accent, 230), span(fatha, kasra, 30), one(mark, 7), one(virama, 9), one(0x9cd, 9), one(0xa00, 8), one(0xa01, 10)},
			Excluded: []rune{0x958},
		},
		Props: api.Props{
			Exceptions: []api.Range{
				one(0xb7, api.ContextO), one(0x375, api.ContextO), span(0x5f3, 0x5f4, api.ContextO), span(0x660, 0x669, api.ContextO),
				span(0x6f0, 0x6f9, api.ContextO), one(0x2019, api.ContextJ), one(0x2027, api.ContextO), one(0x30fb, api.ContextO),
			},
			Joiners: []api.Range{span(0x200c, 0x200d, 0), one(0x2061, 0)},
			Letters: []api.Range{
				span('a', 'z', 0), one(0xe9, 0), one(accent, 0), one(alpha, 0), one(bet, 0), span(0x620, 0x65f, 0), span(0x915, virama, 0),
				one(hiragana, 0), one(katakana, 0), one(han, 0), one(heth, 0),
			},
			Joining: []api.Range{one(alef, api.JoinR), one(heh, api.JoinD), span(fatha, kasra, api.JoinT), one(heth, api.JoinL)},
			Scripts: []api.Range{
				span(0x370, 0x373, api.Greek), span(0x376, 0x3ff, api.Greek), span(0x5d0, 0x5ea, api.Hebrew), span(0x3041, 0x3096, api.Hiragana),
				span(0x30a1, 0x30fa, api.Katakana), span(0x4e00, 0x9fff, api.Han),
			},
		},
	}
}

// found is a table's value of a rune, range by range.
func found(l []api.Range, r rune) int {
	for _, of := range l {
		if of.Lo <= r && r <= of.Hi {
			return of.Value
		}
	}
	return 0
}

// ruled is a rune's rule, by lists of the runes that have one.
func ruled(r rune) int {
	for i, of := range [][]rune{
		{0x200c}, {0x200d}, {0xb7}, {0x375}, {0x5f3, 0x5f4}, {0x30fb},
		{0x660, 0x661, 0x662, 0x663, 0x664, 0x665, 0x666, 0x667, 0x668, 0x669},
		{0x6f0, 0x6f1, 0x6f2, 0x6f3, 0x6f4, 0x6f5, 0x6f6, 0x6f7, 0x6f8, 0x6f9},
	} {
		if slices.Contains(of, r) {
			return i + 1
		}
	}
	return 0
}

// joiningAhead and joiningBehind are what must stand on either side, in letters of joining types.
var (
	joiningAhead  = regexp.MustCompile(`(L|D)T*$`)
	joiningBehind = regexp.MustCompile(`^T*(R|D)`)
)

// letters are a letter for each rune, by a table's values.
func letters(table []api.Range, l []rune, letterOf string) string {
	var text strings.Builder
	for _, r := range l {
		text.WriteByte(letterOf[found(table, r)])
	}
	return text.String()
}

// held tells whether the rule of a rune holds, by texts with a letter for each rune.
func held(x api.Tables, l []rune, i int) bool {
	if i < 0 || i >= len(l) {
		return false
	}
	const scripts = ".gHhkc"
	before, after := l[:i], l[i+1:]
	joined := joiningAhead.MatchString(letters(x.Props.Joining, before, ".LRDT")) && joiningBehind.MatchString(letters(x.Props.Joining, after, ".LRDT"))
	atVirama := i > 0 && found(x.Norm.Classes, before[i-1]) == 9
	all := make([]int, 9)
	for _, r := range l {
		all[ruled(r)]++
	}
	switch ruled(l[i]) {
	case 1:
		return atVirama || joined
	case 2:
		return atVirama
	case 3:
		return i > 0 && before[i-1] == 'l' && len(after) > 0 && after[0] == 'l'
	case 4:
		return strings.HasPrefix(letters(x.Props.Scripts, after, scripts), "g")
	case 5:
		return strings.HasSuffix(letters(x.Props.Scripts, before, scripts), "H")
	case 6:
		return strings.ContainsAny(letters(x.Props.Scripts, l, scripts), "hkc")
	case 7:
		return all[8] == 0
	case 8:
		return all[7] == 0
	}
	return false
}

// wantHeld fails unless Holds and First say of a row what the chapter's words do.
func wantHeld(t *testing.T, x api.Tables, l []rune) {
	t.Helper()
	first := -1
	for i := len(l); i >= -1; i-- {
		want := held(x, l, i)
		if got := contexts.Holds(x, l, i); got != want {
			t.Errorf("Holds(%x, %d): %t, want %t", l, i, got, want)
		}
		if i < 0 || i == len(l) || want {
			continue
		}
		if class := classes.Of(x.Props, l[i]); class == api.ContextJ || class == api.ContextO {
			first = i
		}
	}
	if got := contexts.First(x, l); got != first {
		t.Errorf("First(%x): %d, want %d", l, got, first)
	}
}

// eachOf hands on all rows of up to so many of what is told, the same list each time.
func eachOf[T any](telling []T, most int, do func([]T)) {
	var grow func(l []T)
	grow = func(l []T) {
		do(l)
		if len(l) == most {
			return
		}
		for _, x := range telling {
			grow(append(l, x))
		}
	}
	grow(make([]T, 0, most))
}

// Norms at fault, and properties, each with its place and named error.
type normFault struct {
	norm  api.Norm
	place int
	named error
}

type propsFault struct {
	props api.Props
	place int
	named error
}

func wrongNorms() []normFault {
	return []normFault{
		{api.Norm{Rows: make([]api.Row, api.MaxTable+1)}, 0, api.ErrFull},
		{api.Norm{Rows: []api.Row{{From: 0xe9, To: []rune{'e'}}, {From: -1}}}, 1, api.ErrRange},
		{api.Norm{Rows: []api.Row{{From: 0xe9, To: []rune{'e'}}, {From: 0xe9}}}, 1, api.ErrOrder},
		{api.Norm{Rows: []api.Row{{From: 0xe9}}}, 0, api.ErrForm},
		{api.Norm{Rows: []api.Row{{From: 0xe9, To: []rune{'e', 0xe9}}}}, 0, api.ErrDeep},
		{api.Norm{Classes: []api.Range{one(1, 9), one(2, 9), one(2, 9)}}, 2, api.ErrOrder},
		{api.Norm{Classes: []api.Range{one(1, 9), one(2, 255)}}, 1, api.ErrKind},
		{api.Norm{Excluded: []rune{1, 2, 0xd800}}, 2, api.ErrRange},
		{api.Norm{Rows: []api.Row{{From: 0xe8, To: []rune{'e', accent}}, {From: 0xe9, To: []rune{'e', accent}}}}, 1, api.ErrThere},
	}
}

func wrongProps() []propsFault {
	return []propsFault{
		{api.Props{Exceptions: []api.Range{one(1, 1), one(2, 1), one(3, 6)}}, 2, api.ErrKind},
		{api.Props{Joiners: []api.Range{one(1, 1), one(1, 1)}}, 1, api.ErrOrder},
		{api.Props{Joining: []api.Range{one(1, 4), one(2, 4), one(3, 4), one(4, 5)}}, 3, api.ErrKind},
		{api.Props{Scripts: []api.Range{one(1, 0)}}, 0, api.ErrKind},
		{api.Props{Marks: make([]api.Range, api.MaxTable+1)}, 0, api.ErrFull},
		{api.Props{Letters: []api.Range{one(1, 1), span(3, 2, 1)}}, 1, api.ErrRange},
	}
}

// P8.1: no tables are right, and so are some; what is turned small isn't looked at.
func TestCheckRight(t *testing.T) {
	wantFault(t, "none", contexts.Check(api.Tables{}), 0, nil)
	wantFault(t, "some", contexts.Check(tables()), 0, nil)
	wantFault(t, "a norm alone", contexts.Check(api.Tables{Norm: tables().Norm}), 0, nil)
	wantFault(t, "properties alone", contexts.Check(api.Tables{Props: tables().Props}), 0, nil)
	for _, lower := range [][]api.Pair{{}, {{From: 'A', To: 'a'}}, {{From: -1, To: -1}, {From: -1, To: 0x110000}}, make([]api.Pair, api.MaxTable+1)} {
		x := tables()
		x.Lower = lower
		wantFault(t, "lower", contexts.Check(x), 0, nil)
	}
}

// P8.1: a norm at fault alone, properties at fault alone, and both, of which the norm's fault is told.
func TestCheckFaults(t *testing.T) {
	for i, n := range wrongNorms() {
		for _, props := range []api.Props{{}, tables().Props} {
			wantFault(t, fmt.Sprintf("norm %d", i), contexts.Check(api.Tables{Norm: n.norm, Props: props}), n.place, n.named)
		}
		for j, p := range wrongProps() {
			wantFault(t, fmt.Sprintf("norm %d, properties %d", i, j), contexts.Check(api.Tables{Norm: n.norm, Props: p.props}), n.place, n.named)
		}
	}
	for j, p := range wrongProps() {
		for _, norm := range []api.Norm{{}, tables().Norm} {
			wantFault(t, fmt.Sprintf("properties %d", j), contexts.Check(api.Tables{Norm: norm, Props: p.props}), p.place, p.named)
		}
	}
}

// R4: two answers of Check are two errors: what is written into the one isn't seen in the other.
func TestErrorsAreNew(t *testing.T) {
	for _, x := range []api.Tables{{Norm: wrongNorms()[1].norm}, {Props: wrongProps()[1].props}} {
		var a, b *api.Fault
		if !errors.As(contexts.Check(x), &a) {
			t.Fatal("no error")
		}
		a.At = 77
		if !errors.As(contexts.Check(x), &b) || b.At != 1 {
			t.Errorf("%v", b)
		}
	}
}

// P8.1: each rune that has a rule, and the neighbours of all of these.
func TestRuleNamedEdges(t *testing.T) {
	for _, c := range []struct {
		r    rune
		rule int
	}{
		{0x200b, 0}, {0x200c, 1}, {0x200d, 2}, {0x200e, 0}, {0xb6, 0}, {0xb7, 3}, {0xb8, 0}, {0x374, 0}, {0x375, 4}, {0x376, 0},
		{0x5f2, 0}, {0x5f3, 5}, {0x5f4, 5}, {0x5f5, 0}, {0x30fa, 0}, {0x30fb, 6}, {0x30fc, 0},
		{0x65f, 0}, {0x660, 7}, {0x661, 7}, {0x664, 7}, {0x668, 7}, {0x669, 7}, {0x66a, 0},
		{0x6ef, 0}, {0x6f0, 8}, {0x6f1, 8}, {0x6f5, 8}, {0x6f8, 8}, {0x6f9, 8}, {0x6fa, 0},
		{0, 0}, {'l', 0}, {'0', 0}, {0xd800, 0}, {0x10ffff, 0}, {0x110000, 0}, {-1, 0}, {-0xb7, 0}, {-0x200c, 0}, {math.MinInt32, 0}, {math.MaxInt32, 0},
		{0xb7 + 1<<16, 0}, {0x200c + 1<<16, 0}, {0x660 + 1<<24, 0}, {0x6f0 - 1<<31, 0},
	} {
		if got := contexts.Rule(c.r); got != c.rule {
			t.Errorf("%x: %d, want %d", c.r, got, c.rule)
		}
	}
}

// P8.1: each rune, and some below 0 and above all runes.
func TestRuleOfEachRune(t *testing.T) {
	many := 0
	for r := rune(-0x1000); r <= api.MaxRune+0x10000; r++ {
		rule := contexts.Rule(r)
		if want := ruled(r); rule != want {
			t.Errorf("%x: %d, want %d", r, rule, want)
		}
		if rule > 0 {
			many++
		}
	}
	if many != 27 {
		t.Errorf("%d runes have rules", many)
	}
}

// asked is a row, a rune's number in it, and whether its rule holds.
type asked struct {
	l    []rune
	i    int
	want bool
}

// wantAsked fails unless the rules hold as told.
func wantAsked(t *testing.T, what string, all ...asked) {
	t.Helper()
	x := tables()
	for _, c := range all {
		if got := contexts.Holds(x, c.l, c.i); got != c.want {
			t.Errorf("%s: %x, %d: %t", what, c.l, c.i, got)
		}
		if got := held(x, c.l, c.i); got != c.want {
			t.Errorf("%s: %x, %d: by the tests' own words %t", what, c.l, c.i, got)
		}
	}
}

// P8.2: no such rune, and runes without a rule.
func TestHoldsOfNoRule(t *testing.T) {
	right := []rune{'l', 0xb7, 'l'}
	for _, i := range []int{math.MinInt, math.MinInt + 1, math.MinInt32, -2, -1, 0, 2, 3, 4, 1 << 32, 1<<32 + 1, math.MaxInt - 1, math.MaxInt} {
		wantAsked(t, "no rule", asked{right, i, false}, asked{nil, i, false}, asked{[]rune{}, i, false}, asked{right[:1], i, false}, asked{right[:0], i, false})
	}
	wantAsked(t, "a rule", asked{right, 1, true})
	for _, r := range []rune{'a', 'l', virama, fatha, heh, alpha, bet, han, 0x2019, 0x2027, 0x2061, 0x200b, 0x200e, 0x65f, 0x6fa, -1, 0xd800, 0x110000, math.MinInt32, math.MaxInt32} {
		wantAsked(t, "no rule", asked{[]rune{r}, 0, false}, asked{[]rune{virama, r}, 1, false}, asked{[]rune{heh, r, heh}, 1, false}, asked{[]rune{'l', r, 'l'}, 1, false})
	}
}

// P8.2: rules 1 and 2 hold right behind a rune of the class 9.
func TestHoldsBehindClass9(t *testing.T) {
	for _, r := range []rune{0x200c, 0x200d} {
		wantAsked(t, "class 9",
			asked{[]rune{r}, 0, false}, asked{[]rune{r, virama}, 0, false}, asked{[]rune{virama, r}, 1, true}, asked{[]rune{0x9cd, r}, 1, true},
			asked{[]rune{0x915, virama, r, 0x937}, 2, true}, asked{[]rune{mark, r}, 1, false}, asked{[]rune{accent, r}, 1, false},
			asked{[]rune{0xa00, r}, 1, false}, asked{[]rune{0xa01, r}, 1, false}, asked{[]rune{'a', r}, 1, false},
			asked{[]rune{virama, 'a', r}, 2, false}, asked{[]rune{virama, mark, r}, 2, false}, asked{[]rune{virama, r, r}, 2, false}, asked{[]rune{virama, r, r}, 1, true},
			asked{[]rune{virama, fatha, r}, 2, false}, asked{[]rune{'a', r, virama, r}, 3, true}, asked{[]rune{'a', r, virama, r}, 1, false},
		)
	}
}

// P8.2: rule 1 holds between runes that join, with none, one and several runes of JoinT on either side; rule 2 doesn't.
func TestHoldsBetweenJoining(t *testing.T) {
	left := map[rune]bool{heh: true, heth: true}
	right := map[rune]bool{heh: true, alef: true}
	passed := [][]rune{{}, {fatha}, {kasra}, {fatha, kasra}, {kasra, kasra, fatha, 0x64f, fatha}, slices.Repeat([]rune{fatha}, 100)}
	ends := [][]rune{{}, {'a'}, {accent}, {heh}, {alef}, {heth}, {0x200c}, {-1}, {0x110000}, {0xb7}}
	for _, first := range ends {
		for _, before := range passed {
			for _, after := range passed {
				for _, last := range ends {
					l := slices.Concat(first, before, []rune{0x200c}, after, last)
					at := len(first) + len(before)
					joined := len(first) > 0 && left[first[0]] && len(last) > 0 && right[last[0]]
					wantAsked(t, "joining", asked{l, at, joined})
					l[at] = 0x200d
					wantAsked(t, "joining, but a joiner", asked{l, at, false})
				}
			}
		}
	}
}

// P8.2: of rule 1 what stands beyond the runes of JoinT is asked, and nothing beyond that.
func TestHoldsByNearest(t *testing.T) {
	wantAsked(t, "nearest",
		asked{[]rune{heh, 'a', 0x200c, heh}, 2, false}, asked{[]rune{heh, alef, 0x200c, heh}, 2, false}, asked{[]rune{heh, 0x200c, heth, heh}, 1, false},
		asked{[]rune{heh, 0x200c, 'a', heh}, 1, false}, asked{[]rune{heh, 'a', fatha, 0x200c, heh}, 3, false}, asked{[]rune{heh, 0x200c, fatha, accent, heh}, 1, false},
		asked{[]rune{alef, heh, 0x200c, alef, heth}, 2, true}, asked{[]rune{alef, heth, fatha, 0x200c, fatha, heh, heth}, 3, true},
		asked{[]rune{heh, 0x200c, 0x200c, heh}, 1, false}, asked{[]rune{heh, 0x200c, 0x200c, heh}, 2, false},
		asked{[]rune{fatha, 0x200c, fatha}, 1, false}, asked{[]rune{0x200c, fatha, heh}, 0, false}, asked{[]rune{heh, fatha, 0x200c}, 2, false},
		asked{[]rune{heh, fatha, 0x200c, fatha}, 2, false}, asked{[]rune{fatha, 0x200c, heh}, 1, false},
	)
}

// P8.2: joiners that join themselves, or are of the class 9, are asked as all runes are.
func TestHoldsOfTellingJoiners(t *testing.T) {
	x := tables()
	x.Props.Joining = []api.Range{one(alef, api.JoinR), one(heh, api.JoinD), one(0x200c, api.JoinT)}
	wantFault(t, "joiners that are passed by", contexts.Check(x), 0, nil)
	many := slices.Concat([]rune{heh}, slices.Repeat([]rune{0x200c}, 20), []rune{alef})
	for i := range many {
		if got, want := contexts.Holds(x, many, i), 0 < i && i <= 20; got != want || got != held(x, many, i) {
			t.Errorf("joiners that are passed by, %d: %t", i, got)
		}
	}
	x = tables()
	x.Norm.Classes = append(x.Norm.Classes, span(0x200c, 0x200d, 9))
	wantFault(t, "joiners of the class 9", contexts.Check(x), 0, nil)
	many = slices.Repeat([]rune{0x200c, 0x200d}, 10)
	for i := range many {
		if got := contexts.Holds(x, many, i); got != (i > 0) {
			t.Errorf("joiners of the class 9, %d: %t", i, got)
		}
	}
}

// P8.2: rule 3 holds with 6c on both sides.
func TestHoldsBetweenSmallL(t *testing.T) {
	wantAsked(t, "6c",
		asked{[]rune{'l', 0xb7, 'l'}, 1, true}, asked{[]rune{'l', 0xb7}, 1, false}, asked{[]rune{0xb7, 'l'}, 0, false}, asked{[]rune{0xb7}, 0, false},
		asked{[]rune{'a', 0xb7, 'l'}, 1, false}, asked{[]rune{'l', 0xb7, 'a'}, 1, false}, asked{[]rune{'a', 0xb7, 'a'}, 1, false},
		asked{[]rune{'L', 0xb7, 'l'}, 1, false}, asked{[]rune{'l', 0xb7, 'L'}, 1, false}, asked{[]rune{'k', 0xb7, 'l'}, 1, false}, asked{[]rune{'l', 0xb7, 'm'}, 1, false},
		asked{[]rune{'l', 'a', 0xb7, 'a', 'l'}, 2, false}, asked{[]rune{'l', accent, 0xb7, 'l'}, 2, false}, asked{[]rune{'l', 0xb7, 0xb7, 'l'}, 1, false}, asked{[]rune{'l', 0xb7, 0xb7, 'l'}, 2, false},
		asked{[]rune{'l', 0xb7, 'l', 0xb7, 'l'}, 1, true}, asked{[]rune{'l', 0xb7, 'l', 0xb7, 'l'}, 3, true}, asked{[]rune{'a', 'l', 0xb7, 'l', 'a'}, 2, true}, asked{[]rune{'l', 'l', 0xb7}, 2, false},
	)
}

// P8.2: rule 4 holds ahead of Greek, rule 5 behind Hebrew.
func TestHoldsByScriptOfNeighbour(t *testing.T) {
	wantAsked(t, "ahead of Greek",
		asked{[]rune{0x375, alpha}, 0, true}, asked{[]rune{'a', 0x375, 0x370, 'a'}, 1, true}, asked{[]rune{0x375}, 0, false}, asked{[]rune{alpha, 0x375}, 1, false},
		asked{[]rune{0x375, 'a'}, 0, false}, asked{[]rune{0x375, bet}, 0, false}, asked{[]rune{0x375, han}, 0, false}, asked{[]rune{0x375, 'a', alpha}, 0, false},
		asked{[]rune{0x375, 0x374}, 0, false}, asked{[]rune{0x375, 0x376}, 0, true}, asked{[]rune{0x375, 0x375, alpha}, 0, false}, asked{[]rune{0x375, 0x375, alpha}, 1, true},
		asked{[]rune{0x375, 0x3ff}, 0, true}, asked{[]rune{0x375, 0x400}, 0, false}, asked{[]rune{0x375, accent, alpha}, 0, false},
	)
	for _, r := range []rune{0x5f3, 0x5f4} {
		wantAsked(t, "behind Hebrew",
			asked{[]rune{bet, r}, 1, true}, asked{[]rune{'a', 0x5ea, r, 'a'}, 2, true}, asked{[]rune{r}, 0, false}, asked{[]rune{r, bet}, 0, false},
			asked{[]rune{'a', r}, 1, false}, asked{[]rune{alpha, r}, 1, false}, asked{[]rune{hiragana, r}, 1, false}, asked{[]rune{bet, 'a', r}, 2, false},
			asked{[]rune{0x5cf, r}, 1, false}, asked{[]rune{0x5d0, r}, 1, true}, asked{[]rune{0x5eb, r}, 1, false}, asked{[]rune{bet, r, r}, 2, false}, asked{[]rune{bet, r, r}, 1, true},
			asked{[]rune{bet, accent, r}, 2, false},
		)
	}
}

// P8.2: rule 6 holds with one of three scripts anywhere in the row.
func TestHoldsByScriptInRow(t *testing.T) {
	for _, r := range []rune{hiragana, katakana, han, 0x3041, 0x3096, 0x30a1, 0x30fa, 0x4e00, 0x9fff} {
		wantAsked(t, "scripts",
			asked{[]rune{r, 0x30fb}, 1, true}, asked{[]rune{0x30fb, r}, 0, true}, asked{[]rune{r, 'a', 'b', 0x30fb}, 3, true}, asked{[]rune{0x30fb, 'a', 'b', r}, 0, true},
			asked{[]rune{'a', 0x30fb, 'b', 0x30fb, r}, 1, true}, asked{[]rune{'a', 0x30fb, 'b', 0x30fb, r}, 3, true}, asked{[]rune{r, r, 0x30fb, r}, 2, true},
		)
	}
	for _, r := range []rune{'a', alpha, bet, 0x3040, 0x3097, 0x30a0, 0x30fc, 0x30fb, 0x4dff, 0xa000, heh, -1, 0x110000} {
		wantAsked(t, "no such script", asked{[]rune{r, 0x30fb}, 1, false}, asked{[]rune{0x30fb, r}, 0, false}, asked{[]rune{r, 'a', 0x30fb, 'b', r}, 2, false})
	}
	wantAsked(t, "alone", asked{[]rune{0x30fb}, 0, false})
	x := tables()
	x.Props.Scripts = []api.Range{one(0x30fb, api.Katakana)}
	if l := []rune{'a', 0x30fb}; !contexts.Holds(x, l, 1) {
		t.Error("it is itself some rune of the row")
	}
}

// P8.2: rules 7 and 8 hold without digits of the other kind anywhere in the row.
func TestHoldsWithoutOtherDigits(t *testing.T) {
	arabic, extended := []rune{0x660, 0x661, 0x665, 0x668, 0x669}, []rune{0x6f0, 0x6f1, 0x6f5, 0x6f8, 0x6f9}
	for i, kind := range [][]rune{arabic, extended} {
		others := [][]rune{extended, arabic}[i]
		for _, r := range kind {
			wantAsked(t, "alone", asked{[]rune{r}, 0, true}, asked{slices.Concat(kind, []rune{r}), len(kind), true}, asked{slices.Concat([]rune{r}, kind), 0, true}, asked{[]rune{'a', '1', r, alpha, han}, 2, true})
			wantAsked(t, "beside what is no digit", asked{[]rune{0x65f, r, 0x66a}, 1, true}, asked{[]rune{0x6ef, r, 0x6fa}, 1, true}, asked{[]rune{'0', r, '9'}, 1, true})
			for _, other := range others {
				wantAsked(t, "of the other kind",
					asked{[]rune{other, r}, 1, false}, asked{[]rune{r, other}, 0, false}, asked{[]rune{other, 'a', 'b', r}, 3, false}, asked{[]rune{r, 'a', 'b', other}, 0, false},
					asked{[]rune{r, r, r, other}, 1, false}, asked{[]rune{other, r, r, r}, 2, false},
				)
			}
		}
	}
}

// P8.2: the chapter's examples.
func TestExamples(t *testing.T) {
	if x := (api.Tables{}); !contexts.Holds(x, []rune{0x6c, 0xb7, 0x6c}, 1) || contexts.Holds(x, []rune{0x6c, 0xb7}, 1) {
		t.Error("the chapter's examples")
	}
}

// P8.2: without tables no rune has a class, a joining type, or a script.
func TestNoTables(t *testing.T) {
	for _, r := range []rune{0x200c, 0x200d, 0xb7, 0x375, 0x5f3, 0x5f4, 0x30fb, 0x660, 0x669, 0x6f0, 0x6f9} {
		for _, l := range [][]rune{{r}, {virama, r, virama}, {heh, r, heh}, {alpha, r, alpha}, {bet, r, bet}, {han, r, han}} {
			at := len(l) / 2
			if got, want := contexts.Holds(api.Tables{}, l, at), ruled(r) >= 7; got != want {
				t.Errorf("%x: %t", l, got)
			}
			if got := contexts.First(api.Tables{}, l); got != -1 {
				t.Errorf("First(%x): %d", l, got)
			}
		}
	}
}

// P8.2 and P8.3: all short rows of runes of all kinds.
func TestShortRows(t *testing.T) {
	x := tables()
	eachOf([]rune{0x200c, 0x200d, heh, alef, heth, fatha, virama}, 5, func(l []rune) { wantHeld(t, x, l) })
	eachOf([]rune{0xb7, 'l', 0x375, alpha, 0x5f3, bet, 0x660, 0x6f9, 'a'}, 4, func(l []rune) { wantHeld(t, x, l) })
	eachOf([]rune{0x30fb, hiragana, katakana, han, alpha, 0x5f4, bet, 0x669, 0x6f0, 0x2027, 0x2019, -1}, 3, func(l []rune) { wantHeld(t, x, l) })
}

// P8.3: rows where no rule fails, where one does, and where several do.
func TestFirstNamedEdges(t *testing.T) {
	x := tables()
	for _, c := range []struct {
		l    []rune
		want int
	}{
		{nil, -1}, {[]rune{}, -1}, {[]rune{'a'}, -1}, {[]rune{'a', 'A', -1, 0x110000}, -1},
		{[]rune{'l', 0xb7, 'l', virama, 0x200c, virama, 0x200d, 0x375, alpha, bet, 0x5f3, bet, 0x5f4, 0x30fb, han, 0x660, 0x669}, -1},
		{[]rune{0xb7, 'l', 'a'}, 0}, {[]rune{'l', 'a', 0xb7, 'l'}, 2}, {[]rune{'l', 0xb7, 'l', 0xb7}, 3}, {[]rune{0x375}, 0}, {[]rune{alpha, 0x375}, 1},
		{[]rune{0x200d, 0xb7, 0x375}, 0}, {[]rune{'a', 0x200d, 0xb7, 0x375}, 1}, {[]rune{virama, 0x200d, 0xb7, 0x375}, 2}, {[]rune{virama, 0x200d, 'l', 0xb7, 'l', 0x375}, 5},
		{[]rune{0x660, 'a', 0x6f0}, 0}, {[]rune{'a', 0x6f9, 0x669}, 1}, {[]rune{0x30fb, 'a'}, 0}, {[]rune{0x30fb, 'a', hiragana}, -1},
		{[]rune{0x2027}, 0}, {[]rune{'a', 0x2019}, 1}, {[]rune{'a', 'b', 0x2061, 'c'}, 2}, {[]rune{'l', 0xb7, 'l', 0x2027, 0xb7}, 3}, {[]rune{heh, 0x2061, heh}, 1}, {[]rune{virama, 0x2061}, 1},
	} {
		if got := contexts.First(x, c.l); got != c.want {
			t.Errorf("%x: %d, want %d", c.l, got, c.want)
		}
		wantHeld(t, x, c.l)
	}
}

// P8.3: a rune with a rule that doesn't hold is told just where its class asks for one, whatever says so.
func TestFirstByClass(t *testing.T) {
	for _, r := range []rune{0x200c, 0x200d, 0xb7, 0x375, 0x5f3, 0x5f4, 0x30fb, 0x660, 0x6f0, 0x2027} {
		l := []rune{'a', 0x660, 0x6f0, r, 'b'}
		for class := api.Pvalid; class <= api.Unassigned; class++ {
			x := tables()
			x.Props.Joiners, x.Props.Exceptions = nil, []api.Range{one(r, class)}
			want := -1
			if class == api.ContextJ || class == api.ContextO {
				want = slices.Index(l, r)
			}
			if got := contexts.First(x, l); got != want {
				t.Errorf("%x of class %d: %d, want %d", r, class, got, want)
			}
			wantHeld(t, x, l)
		}
		for _, table := range []func(p *api.Props) *[]api.Range{
			func(p *api.Props) *[]api.Range { return &p.Unassigned }, func(p *api.Props) *[]api.Range { return &p.OldHangul },
			func(p *api.Props) *[]api.Range { return &p.Unstable }, func(p *api.Props) *[]api.Range { return &p.Ignorable },
			func(p *api.Props) *[]api.Range { return &p.Letters }, func(p *api.Props) *[]api.Range { return &p.Joiners },
		} {
			x := tables()
			x.Props.Joiners, x.Props.Exceptions = nil, nil
			*table(&x.Props) = []api.Range{one(r, 0)}
			wantHeld(t, x, l)
		}
	}
}

// P8.4: of rules 2 and 5 nothing that is put behind all runes changes whether they hold; of each other rule something does.
func TestPutBehind(t *testing.T) {
	x := tables()
	telling := []rune{0x200c, 0x200d, 0xb7, 0x375, 0x5f3, 0x5f4, 0x30fb, 0x660, 0x6f0, 'l', 'a', virama, mark, heh, alef, heth, fatha, alpha, bet, han}
	behind := append([]rune{accent, hiragana, katakana, 0x669, 0x6f9, -1, 0xd800, 0x10ffff, 0x110000}, telling...)
	changed := [9]bool{}
	eachOf(telling, 3, func(l []rune) {
		for _, r := range behind {
			longer := append(slices.Clone(l), r)
			for i, at := range l {
				if contexts.Holds(x, l, i) != contexts.Holds(x, longer, i) {
					changed[contexts.Rule(at)] = true
				}
			}
		}
	})
	if want := [9]bool{1: true, 3: true, 4: true, 6: true, 7: true, 8: true}; changed != want {
		t.Errorf("rules that changed: %t, want %t", changed, want)
	}
}

// P8.4: rows that have the rules 2 and 5, with each rune put behind.
func TestEachRunePutBehind(t *testing.T) {
	x := tables()
	for _, c := range []asked{
		{[]rune{virama, 0x200d}, 1, true}, {[]rune{'a', 0x200d}, 1, false}, {[]rune{0x200d}, 0, false}, {[]rune{virama, 0x200d, 'a'}, 1, true},
		{[]rune{bet, 0x5f3}, 1, true}, {[]rune{'a', 0x5f3}, 1, false}, {[]rune{0x5f4}, 0, false}, {[]rune{bet, 0x5f4, 'a'}, 1, true},
	} {
		longer := append(slices.Clone(c.l), 0)
		for r := rune(-2); r <= api.MaxRune+2; r++ {
			longer[len(c.l)] = r
			if got := contexts.Holds(x, longer, c.i); got != c.want {
				t.Errorf("%x, %d: %t", longer, c.i, got)
			}
		}
	}
}

// ask calls all functions, and is what they answer.
func ask(x api.Tables, l []rune, i int) string {
	answers := fmt.Sprint(contexts.Check(x) == nil, contexts.Holds(x, l, i), contexts.First(x, l))
	for _, r := range l {
		answers += fmt.Sprint(" ", contexts.Rule(r))
	}
	return answers
}

// P1: whatever the tables and the rows are, the calls end, and give the same answer again.
func TestAnyArgumentsEnd(t *testing.T) {
	telling := []api.Range{
		one(0, 0), span(9, -9, -1), span(math.MinInt32, math.MaxInt32, math.MinInt), span(0xb7, 0x200d, 9), span(0x30fb, 0x30fb, 3),
		one(virama, math.MaxInt), span(-5, 0x110000, 4), one(math.MaxInt32, 3),
	}
	row := []rune{math.MinInt32, -1, 0x200c, 'l', 0xb7, 0x200d, 0x375, 0x5f3, 0x30fb, 0x660, 0x6f0, 0xd800, 0x10ffff, 0x110000, 0x200c, math.MaxInt32}
	eachOf(telling, 3, func(ranges []api.Range) {
		x := api.Tables{
			Norm: api.Norm{Classes: ranges, Rows: []api.Row{{From: -1}, {From: -1, To: []rune{-1, -1, -1}}}, Excluded: []rune{5, -1}},
			Props: api.Props{
				Exceptions: ranges, Unassigned: ranges, Joiners: ranges, OldHangul: ranges, Unstable: ranges, Ignorable: ranges,
				Letters: ranges, Joining: ranges, Scripts: ranges, Directions: ranges, Marks: ranges,
			},
			Lower: []api.Pair{{From: -1, To: 0x110000}},
		}
		bare := x
		bare.Props.Exceptions = nil
		for _, of := range []api.Tables{x, bare} {
			for _, l := range [][]rune{nil, row, row[2:], row[10:]} {
				for _, i := range []int{math.MinInt, -1, 0, 1, 2, 3, len(l) - 1, len(l), math.MaxInt} {
					if a, b := ask(of, l, i), ask(of, l, i); a != b {
						t.Errorf("%x, %d of %x: %s, then %s", l, i, of, a, b)
					}
				}
			}
		}
	})
}

// P1: long rows, of runes whose rules look far.
func TestLongRows(t *testing.T) {
	x := tables()
	const many = 3000
	for _, c := range []struct {
		l    []rune
		want int
	}{
		{slices.Repeat([]rune{0x660}, many), -1}, {append(slices.Repeat([]rune{0x660}, many), 0x6f0), 0}, {append(slices.Repeat([]rune{0x30fb}, many), han), -1},
		{slices.Concat([]rune{heh}, slices.Repeat([]rune{fatha}, many), []rune{0x200c}, slices.Repeat([]rune{fatha}, many), []rune{alef}), -1},
		{slices.Concat([]rune{heh}, slices.Repeat([]rune{fatha}, many), []rune{0x200c}, slices.Repeat([]rune{fatha}, many), []rune{heth}), many + 1},
		{append(slices.Repeat([]rune{'l', 0xb7}, many), 'l'), -1}, {slices.Repeat([]rune{'l', 0xb7}, many), 2*many - 1},
	} {
		if got := contexts.First(x, c.l); got != c.want {
			t.Errorf("%x and so on: %d, want %d", c.l[:3], got, c.want)
		}
	}
}

// withRoom is a copy of a list, with room behind it in which there is what would be seen if it were read.
func withRoom[T any](l []T, behind ...T) []T {
	return append(slices.Clone(l), behind...)[:len(l)]
}

// R4: nothing that is handed in is changed, and nothing behind a list's length is read.
func TestMemory(t *testing.T) {
	for _, row := range [][]rune{{'l', 0xb7}, {0x375}, {heh, fatha, 0x200c, fatha}, {0x30fb}, {0x660, 'a'}, {0x6f0}, {'a', 0x200d}} {
		x, want := tables(), tables()
		behindTable := []api.Range{one(0xf0000, 9), span(9, 8, -1)}
		x.Norm.Classes, x.Props.Joining = withRoom(x.Norm.Classes, behindTable...), withRoom(x.Props.Joining, behindTable...)
		x.Props.Scripts, x.Props.Exceptions = withRoom(x.Props.Scripts, behindTable...), withRoom(x.Props.Exceptions, behindTable...)
		for _, behind := range [][]rune{{'l'}, {alpha}, {heh}, {alef}, {han}, {0x6f0}, {0x660}} {
			l := withRoom(row, behind...)
			for i := range row {
				if got := ask(x, l, i); got != ask(want, slices.Clone(row), i) {
					t.Errorf("%x, %d: %s", row, i, got)
				}
			}
			if whole := l[:len(row)+len(behind)]; !slices.Equal(whole, slices.Concat(row, behind)) {
				t.Errorf("changed to %x", whole)
			}
		}
		if fmt.Sprint(x) != fmt.Sprint(want) {
			t.Errorf("changed to %x", x)
		}
		for _, table := range [][]api.Range{x.Norm.Classes, x.Props.Joining, x.Props.Scripts, x.Props.Exceptions} {
			if behind := table[len(table) : len(table)+2]; !slices.Equal(behind, behindTable) {
				t.Errorf("changed to %x", behind)
			}
		}
	}
}

// kinds are runes of all kinds that rules ask for.
func kinds() []rune {
	return []rune{
		0x200c, 0x200c, 0x200d, 0xb7, 0x375, 0x5f3, 0x5f4, 0x30fb, 0x660, 0x669, 0x6f0, 0x6f9, 'l', 'l', 'a', virama, mark, accent,
		heh, alef, heth, fatha, kasra, alpha, bet, hiragana, katakana, han, 0x2019, 0x2027, 0xd800, -1, 0x110000,
	}
}

// drawnTable is a table of some of these runes, with values up to the greatest one.
func drawnTable(d *rand.Rand, runes []rune, most int) (l []api.Range) {
	for _, r := range runes {
		if r >= 0 && r <= api.MaxRune && d.Intn(3) > 0 {
			l = append(l, one(r, 1+d.Intn(most)))
		}
	}
	return l
}

// drawn are right tables that say whatever of the runes, and a row of these.
func drawn(d *rand.Rand) (x api.Tables, l []rune) {
	runes := kinds()
	slices.Sort(runes)
	runes = slices.Compact(runes)
	x.Norm.Classes = drawnTable(d, runes, 10)
	x.Props = api.Props{
		Exceptions: drawnTable(d, runes, api.Unassigned), Joiners: drawnTable(d, runes, 1), Letters: drawnTable(d, runes, 1),
		Joining: drawnTable(d, runes, api.JoinT), Scripts: drawnTable(d, runes, api.Han),
	}
	for range d.Intn(30) {
		l = append(l, kinds()[d.Intn(len(kinds()))])
	}
	return x, l
}

// wantDrawn holds all functions against the chapter's words.
func wantDrawn(t *testing.T, seed int64) {
	t.Helper()
	d := rand.New(rand.NewSource(seed))
	x, l := drawn(d)
	if e := contexts.Check(x); e != nil || decomp.Check(x.Norm) != nil || classes.Check(x.Props) != nil {
		t.Errorf("seed %d: %v", seed, e)
	}
	wantHeld(t, x, l)
	wantHeld(t, tables(), l)
}

func TestDrawn(t *testing.T) {
	for seed := range int64(20000) {
		wantDrawn(t, seed)
	}
}

func FuzzDrawn(f *testing.F) {
	for seed := range int64(20) {
		f.Add(seed)
	}
	f.Fuzz(func(t *testing.T, seed int64) { wantDrawn(t, seed) })
}
