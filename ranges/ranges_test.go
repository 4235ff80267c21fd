package ranges_test

import (
	"errors"
	"fmt"
	"iter"
	"math"
	"math/rand"
	"regexp"
	"slices"
	"strconv"
	"strings"
	"testing"

	"eponym/api"
	"eponym/ranges"
)

// telling are ranges at the bounds of what may be, and beside one another in all ways.
var telling = []api.Range{
	{Lo: 0, Hi: 0, Value: 0},
	{Lo: 0, Hi: 4, Value: 1},
	{Lo: 1, Hi: 3, Value: 1},
	{Lo: 4, Hi: 4, Value: 1},
	{Lo: 4, Hi: 6, Value: 2},
	{Lo: 5, Hi: 6, Value: 1},
	{Lo: 5, Hi: 6, Value: 999999},
	{Lo: 7, Hi: 9, Value: 1},
	{Lo: 0xd800, Hi: 0xdfff, Value: 3},
	{Lo: api.MaxRune, Hi: api.MaxRune, Value: 1},
	{Lo: 0, Hi: api.MaxRune, Value: 1},
	{Lo: 5, Hi: 4, Value: 1},
	{Lo: -1, Hi: 4, Value: 1},
	{Lo: -2, Hi: -1, Value: 1},
	{Lo: 5, Hi: api.MaxRune + 1, Value: 1},
	{Lo: 5, Hi: 5, Value: -1},
	{Lo: 5, Hi: 5, Value: 1000000},
	{Lo: math.MinInt32, Hi: math.MaxInt32, Value: math.MinInt},
	{Lo: math.MaxInt32, Hi: math.MinInt32, Value: math.MaxInt},
}

// wantFault fails unless the error is just a Fault of that named error at that place.
func wantFault(t *testing.T, what string, e error, place int, named error) {
	t.Helper()
	if named == nil {
		if e != nil {
			t.Errorf("%s: %v, want no error", what, e)
		}
		return
	}
	var f *api.Fault
	if !errors.As(e, &f) {
		t.Errorf("%s: %v is no Fault", what, e)
		return
	}
	if f.At != place || !errors.Is(e, named) {
		t.Errorf("%s: %q at %d, want %q at %d", what, f.Err, f.At, named, place)
	}
}

// short tells a list, or how long it is.
func short(l []api.Range) string {
	if len(l) > 8 {
		return fmt.Sprintf("%d ranges", len(l))
	}
	return fmt.Sprint(l)
}

// eachList hands over all lists of at most so many of the telling ranges.
func eachList(most int, do func([]api.Range)) {
	var grow func([]api.Range)
	grow = func(l []api.Range) {
		do(slices.Clone(l))
		if len(l) == most {
			return
		}
		for _, r := range telling {
			grow(append(slices.Clone(l), r))
		}
	}
	grow(nil)
}

// row is a table of so many ranges, each with a gap behind it.
func row(n int) []api.Range {
	l := make([]api.Range, n)
	for i := range l {
		l[i] = api.Range{Lo: rune(3 * i), Hi: rune(3*i + 1), Value: i}
	}
	return l
}

// may tells whether a range may be, by another way than the program's: what is outside is brought to the nearest that is inside.
func may(r api.Range) bool {
	lo, hi := min(max(r.Lo, 0), r.Hi), min(r.Hi, 0x10ffff)
	return r == api.Range{Lo: lo, Hi: hi, Value: min(max(r.Value, 0), 999999)}
}

// checked is what Check should tell, by another way than the program's.
func checked(l []api.Range) (place int, named error) {
	if len(l) > 2000 {
		return 0, api.ErrFull
	}
	for i, r := range l {
		if !may(r) {
			return i, api.ErrRange
		}
		if i > 0 && int64(l[i-1].Hi)-int64(r.Lo) >= 0 {
			return i, api.ErrOrder
		}
	}
	return 0, nil
}

// built is what Build should tell, by another way than the program's: all pairs, and a sort.
func built(l []api.Range) (table []api.Range, place int, named error) {
	if len(l) > 2000 {
		return nil, 0, api.ErrFull
	}
	if i := slices.IndexFunc(l, func(r api.Range) bool { return !may(r) }); i >= 0 {
		return nil, i, api.ErrRange
	}
	for i, r := range l {
		for _, ahead := range l[:i] {
			if max(r.Lo, ahead.Lo) <= min(r.Hi, ahead.Hi) {
				return nil, i, api.ErrThere
			}
		}
	}
	table = slices.Clone(l)
	slices.SortFunc(table, func(a, b api.Range) int { return int(a.Lo - b.Lo) })
	return table, 0, nil
}

func TestCheckEveryShortList(t *testing.T) {
	eachList(3, func(l []api.Range) {
		place, named := checked(l)
		wantFault(t, short(l), ranges.Check(l), place, named)
	})
}

func TestCheckNamedEdges(t *testing.T) {
	one := func(lo, hi rune, value int) []api.Range { return []api.Range{{Lo: lo, Hi: hi, Value: value}} }
	two := func(hi, lo rune) []api.Range { return []api.Range{{Lo: 2, Hi: hi}, {Lo: lo, Hi: lo + 1}} }
	for _, c := range []struct {
		l     []api.Range
		place int
		named error
	}{
		{nil, 0, nil}, {[]api.Range{}, 0, nil},
		{one(-1, 4, 0), 0, api.ErrRange}, {one(0, 4, 0), 0, nil}, {one(-2, -1, 0), 0, api.ErrRange},
		{one(5, 4, 0), 0, api.ErrRange}, {one(4, 4, 0), 0, nil},
		{one(0, 0x10ffff, 0), 0, nil}, {one(0x10ffff, 0x10ffff, 0), 0, nil}, {one(0, 0x110000, 0), 0, api.ErrRange}, {one(0x110000, 0x110000, 0), 0, api.ErrRange},
		{one(4, 4, -1), 0, api.ErrRange}, {one(4, 4, 999999), 0, nil}, {one(4, 4, 1000000), 0, api.ErrRange},
		{two(5, 5), 1, api.ErrOrder}, {two(5, 4), 1, api.ErrOrder}, {two(5, 6), 0, nil}, {two(5, 7), 0, nil},
		// Of one range the bounds are looked at ahead of the order; of two, the first is told.
		{append(one(5, 6, 0), api.Range{Lo: 4, Hi: 3}), 1, api.ErrRange},
		{append(two(5, 5), api.Range{Lo: 9, Hi: 8}), 1, api.ErrOrder},
		{append(one(5, 4, 0), two(5, 5)...), 0, api.ErrRange},
		{row(2000), 0, nil}, {row(2001), 0, api.ErrFull},
		{append(one(5, 4, 0), row(2000)...), 0, api.ErrFull},
		{append(row(1999), one(5, 4, 0)...), 1999, api.ErrRange},
		{append(row(1999), one(5, 5, 0)...), 1999, api.ErrOrder},
	} {
		wantFault(t, short(c.l), ranges.Check(c.l), c.place, c.named)
	}
}

func TestBuildEveryShortList(t *testing.T) {
	eachList(3, func(l []api.Range) {
		table, place, named := built(l)
		got, e := ranges.Build(l...)
		wantFault(t, short(l), e, place, named)
		if !slices.Equal(got, table) {
			t.Errorf("%s: built %s, want %s", short(l), short(got), short(table))
		}
		wantFault(t, "built of "+short(l), ranges.Check(got), 0, nil)
	})
}

func TestBuildNamedEdges(t *testing.T) {
	a, b, c := api.Range{Lo: 1, Hi: 3, Value: 1}, api.Range{Lo: 4, Hi: 4, Value: 1}, api.Range{Lo: 9, Hi: 20, Value: 7}
	wrong := api.Range{Lo: 5, Hi: 4}
	for _, k := range []struct {
		l     []api.Range
		place int
		named error
	}{
		{nil, 0, nil}, {[]api.Range{}, 0, nil},
		{[]api.Range{c, b, a}, 0, nil}, {[]api.Range{b, c, a}, 0, nil},
		{[]api.Range{a, b, a}, 2, api.ErrThere}, {[]api.Range{a, a, a}, 1, api.ErrThere},
		{[]api.Range{a, c, {Lo: 3, Hi: 3}}, 2, api.ErrThere}, {[]api.Range{a, c, {Lo: 0, Hi: 1}}, 2, api.ErrThere},
		{[]api.Range{a, c, {Lo: 0, Hi: 30}}, 2, api.ErrThere}, {[]api.Range{c, {Lo: 10, Hi: 11}}, 1, api.ErrThere},
		{[]api.Range{c, {Lo: 20, Hi: 30}}, 1, api.ErrThere}, {[]api.Range{c, {Lo: 21, Hi: 30}, {Lo: 8, Hi: 8}}, 0, nil},
		// One that may not be is told ahead of any that has a rune twice.
		{[]api.Range{a, a, wrong}, 2, api.ErrRange}, {[]api.Range{c, wrong, wrong}, 1, api.ErrRange},
		{row(2000), 0, nil}, {row(2001), 0, api.ErrFull}, {slices.Concat([]api.Range{wrong}, row(2000)), 0, api.ErrFull},
	} {
		_, e := ranges.Build(k.l...)
		wantFault(t, short(k.l), e, k.place, k.named)
	}
}

func TestBuildOfAnyOrder(t *testing.T) {
	chance := rand.New(rand.NewSource(3))
	want := row(2000)
	for range 20 {
		l := slices.Clone(want)
		chance.Shuffle(len(l), func(i, j int) { l[i], l[j] = l[j], l[i] })
		was := slices.Clone(l)
		if got, e := ranges.Build(l...); !slices.Equal(got, want) || e != nil {
			t.Errorf("built %s with %v", short(got), e)
		}
		if !slices.Equal(l, was) {
			t.Error("what was handed in is changed")
		}
	}
}

// tables are tables of all kinds.
func tables() [][]api.Range {
	all := [][]api.Range{nil, {}, row(1), row(2), row(3), row(100), row(2000), {{Lo: 0, Hi: api.MaxRune, Value: 5}}}
	eachList(3, func(l []api.Range) {
		if _, named := checked(l); named == nil {
			all = append(all, l)
		}
	})
	chance := rand.New(rand.NewSource(33))
	for range 200 {
		var l []api.Range
		next := rune(chance.Intn(3))
		for range chance.Intn(12) {
			r := api.Range{Lo: next, Hi: next + rune(chance.Intn(4)), Value: chance.Intn(3)}
			l = append(l, r)
			next = r.Hi + 1 + rune(chance.Intn(2)*chance.Intn(5))
		}
		all = append(all, l)
	}
	return all
}

// known is a table's value at a rune, by another way than the program's.
func known(l []api.Range, r rune) (int, bool) {
	for _, one := range l {
		if one.Lo <= r && r <= one.Hi {
			return one.Value, true
		}
	}
	return 0, false
}

// edges are runes at, below and above the ends of a table's ranges, and runes that no table has.
func edges(l []api.Range) []rune {
	out := []rune{math.MinInt32, -1, 0, 1, api.MaxRune, api.MaxRune + 1, math.MaxInt32}
	for _, r := range l[:min(len(l), 100)] {
		out = append(out, r.Lo-1, r.Lo, r.Lo+1, (r.Lo+r.Hi)/2, r.Hi-1, r.Hi, r.Hi+1)
	}
	return out
}

func TestFind(t *testing.T) {
	for _, l := range tables() {
		for _, r := range edges(l) {
			value, ok := known(l, r)
			if got, found := ranges.Find(l, r); got != value || found != ok {
				t.Errorf("%x in %s: %d, %v, want %d, %v", r, short(l), got, found, value, ok)
			}
		}
	}
	l := []api.Range{{Lo: 0x41, Hi: 0x5a, Value: 3}}
	if value, ok := ranges.Find(l, 0x42); value != 3 || !ok {
		t.Errorf("the chapter's example: %d, %v", value, ok)
	}
}

func TestCount(t *testing.T) {
	for _, l := range tables() {
		n := 0
		for range ranges.All(l) {
			n++
		}
		if got := ranges.Count(l); got != n {
			t.Errorf("%s: counted %d, want %d", short(l), got, n)
		}
	}
	for _, c := range []struct {
		l []api.Range
		n int
	}{{nil, 0}, {row(2000), 4000}, {[]api.Range{{Lo: 0, Hi: api.MaxRune}}, 1114112}, {[]api.Range{{Lo: 7, Hi: 7}, {Lo: 9, Hi: 10}}, 3}} {
		if got := ranges.Count(c.l); got != c.n {
			t.Errorf("%s: counted %d, want %d", short(c.l), got, c.n)
		}
	}
}

func TestJoin(t *testing.T) {
	for _, c := range []struct{ l, want []api.Range }{
		{nil, nil}, {[]api.Range{}, nil},
		{[]api.Range{{Lo: 1, Hi: 2, Value: 5}, {Lo: 3, Hi: 3, Value: 5}, {Lo: 4, Hi: 9, Value: 5}}, []api.Range{{Lo: 1, Hi: 9, Value: 5}}},
		{[]api.Range{{Lo: 1, Hi: 2, Value: 5}, {Lo: 3, Hi: 3, Value: 6}, {Lo: 4, Hi: 9, Value: 5}}, []api.Range{{Lo: 1, Hi: 2, Value: 5}, {Lo: 3, Hi: 3, Value: 6}, {Lo: 4, Hi: 9, Value: 5}}},
		{[]api.Range{{Lo: 1, Hi: 2, Value: 5}, {Lo: 4, Hi: 4, Value: 5}}, []api.Range{{Lo: 1, Hi: 2, Value: 5}, {Lo: 4, Hi: 4, Value: 5}}},
		{[]api.Range{{Lo: 1, Hi: 2}, {Lo: 3, Hi: 4}, {Lo: 6, Hi: 7}, {Lo: 8, Hi: api.MaxRune}}, []api.Range{{Lo: 1, Hi: 4}, {Lo: 6, Hi: api.MaxRune}}},
	} {
		if got := ranges.Join(c.l); !slices.Equal(got, c.want) {
			t.Errorf("%s: joined %s, want %s", short(c.l), short(got), short(c.want))
		}
	}
}

func TestJoinedFindsTheSameAndIsTheLeast(t *testing.T) {
	for _, l := range tables() {
		joined := ranges.Join(l)
		wantFault(t, short(l), ranges.Check(joined), 0, nil)
		for _, r := range append(edges(l), edges(joined)...) {
			value, ok := ranges.Find(l, r)
			if got, found := ranges.Find(joined, r); got != value || found != ok {
				t.Errorf("%x in %s: joined %d, %v, want %d, %v", r, short(l), got, found, value, ok)
			}
		}
		if ranges.Count(joined) != ranges.Count(l) {
			t.Errorf("%s: joined has other runes", short(l))
		}
		for i := 1; i < len(joined); i++ {
			if joined[i].Lo == joined[i-1].Hi+1 && joined[i].Value == joined[i-1].Value {
				t.Errorf("%s: %d isn't joined in %s", short(l), i, short(joined))
			}
		}
	}
}

func TestOnly(t *testing.T) {
	l := []api.Range{{Lo: 1, Hi: 2, Value: 5}, {Lo: 3, Hi: 3, Value: 6}, {Lo: 4, Hi: 9, Value: 5}, {Lo: 10, Hi: 10, Value: 0}}
	for _, c := range []struct {
		value int
		want  []api.Range
	}{{5, []api.Range{l[0], l[2]}}, {6, l[1:2]}, {0, l[3:]}, {7, nil}, {-1, nil}, {math.MaxInt, nil}, {math.MinInt, nil}} {
		if got := ranges.Only(l, c.value); !slices.Equal(got, c.want) {
			t.Errorf("only %d: %s, want %s", c.value, short(got), short(c.want))
		}
	}
	for _, l := range tables() {
		for _, value := range []int{-1, 0, 1, 2, 1999, 2000, 999999} {
			want := slices.DeleteFunc(slices.Clone(l), func(r api.Range) bool { return r.Value != value })
			if got := ranges.Only(l, value); !slices.Equal(got, want) {
				t.Errorf("only %d of %s: %s", value, short(l), short(got))
			}
		}
	}
}

type told struct {
	r     rune
	value int
}

// heard are the first of a function's runes, with their values.
func heard(all iter.Seq2[rune, int], most int) (l []told) {
	for r, value := range all {
		if l = append(l, told{r, value}); len(l) == most {
			break
		}
	}
	return l
}

func TestAll(t *testing.T) {
	for _, l := range tables() {
		if ranges.Count(l) > 5000 {
			continue
		}
		var want []told
		for _, r := range l {
			for i := range r.Hi - r.Lo + 1 {
				want = append(want, told{r.Lo + i, r.Value})
			}
		}
		if got := heard(ranges.All(l), -1); !slices.Equal(got, want) {
			t.Errorf("%s: %v, want %v", short(l), got, want)
		}
	}
	next := rune(0)
	for r, value := range ranges.All([]api.Range{{Lo: 0, Hi: api.MaxRune, Value: 9}}) {
		if r != next || value != 9 {
			t.Fatalf("%x with %d, want %x", r, value, next)
		}
		next++
	}
	if next != api.MaxRune+1 {
		t.Errorf("all runes end at %x", next)
	}
}

func TestAllLeftEarlyAndGoneThroughAgain(t *testing.T) {
	l := []api.Range{{Lo: 5, Hi: 7, Value: 1}, {Lo: 9, Hi: 9, Value: 2}}
	want := []told{{5, 1}, {6, 1}, {7, 1}, {9, 2}}
	all := ranges.All(l)
	for most := 1; most <= len(want); most++ {
		if got := heard(all, most); !slices.Equal(got, want[:most]) {
			t.Errorf("the first %d: %v", most, got)
		}
		asked := 0
		all(func(rune, int) bool {
			asked++
			return asked < most
		})
		if asked != most {
			t.Errorf("told %d, wanted %d", asked, most)
		}
	}
	if got := heard(all, -1); !slices.Equal(got, want) {
		t.Errorf("once more: %v", got)
	}
	for r, value := range all {
		if got := heard(all, -1); !slices.Equal(got, want) {
			t.Errorf("within itself, at %x, %d: %v", r, value, got)
		}
	}
}

// TestAnyListEnds: whatever the list, no call panics, and each ends.
func TestAnyListEnds(t *testing.T) {
	try := func(l []api.Range) {
		was := slices.Clone(l)
		_, _ = ranges.Build(l...)
		_ = ranges.Check(l)
		_, _, _ = ranges.Count(l), ranges.Join(l), ranges.Only(l, 1)
		for _, r := range []rune{math.MinInt32, -1, 0, 5, api.MaxRune, math.MaxInt32} {
			_, _ = ranges.Find(l, r)
		}
		all := ranges.All(l)
		if all == nil {
			t.Fatalf("%s: All is nil", short(l))
		}
		heard(all, 3)
		text := ranges.Text(l)
		if _, named := checked(l); named != nil && text != "" {
			t.Errorf("%s: the text %q", short(l), text)
		}
		if !slices.Equal(l, was) {
			t.Errorf("%s is changed", short(was))
		}
	}
	eachList(3, try)
	try(row(2001))
	try(make([]api.Range, 3000))
	heard(ranges.All([]api.Range{{Lo: math.MaxInt32 - 1, Hi: math.MaxInt32}}), -1)
	if all := ranges.All(nil); all == nil || len(heard(all, -1)) != 0 {
		t.Error("All of nothing")
	}
}

// TestMemory: answers are new, arguments aren't kept, and what lies behind a list isn't touched.
func TestMemory(t *testing.T) {
	want := []api.Range{{Lo: 1, Hi: 2, Value: 1}, {Lo: 5, Hi: 6, Value: 1}}
	behind := api.Range{Lo: 3, Hi: 4, Value: 1}
	room := append(slices.Clone(want), behind, behind)
	l := room[:2]
	b, _ := ranges.Build(l...)
	parsed, _ := ranges.Parse(ranges.Text(l))
	for i, got := range [][]api.Range{b, ranges.Join(l), ranges.Only(l, 1), parsed} {
		if !slices.Equal(got, want) {
			t.Fatalf("%d: %s", i, short(got))
		}
		got[0].Lo, got[1].Hi = 77, 99
		_ = append(got, behind)
		if !slices.Equal(room, []api.Range{want[0], want[1], behind, behind}) {
			t.Fatalf("%d: it shares memory with what was handed in", i)
		}
	}
	all := ranges.All(l)
	l[0], l[1] = behind, behind
	if got := heard(all, -1); !slices.Equal(got, []told{{1, 1}, {2, 1}, {5, 1}, {6, 1}}) {
		t.Errorf("All keeps what was handed in: %v", got)
	}
}

// runeWritten is a rune's number as a text has it, by another way than the program's.
func runeWritten(r rune) string { return fmt.Sprintf("%04X", r) }

// written is a table's text, by another way than the program's.
func written(l []api.Range) (s string) {
	for _, r := range l {
		if r.Lo == r.Hi {
			s += fmt.Sprintf("%s %d\n", runeWritten(r.Lo), r.Value)
		} else {
			s += fmt.Sprintf("%s..%s %d\n", runeWritten(r.Lo), runeWritten(r.Hi), r.Value)
		}
	}
	return s
}

func TestTextAndBack(t *testing.T) {
	for _, l := range tables() {
		s := ranges.Text(l)
		if want := written(l); s != want {
			t.Errorf("%s: %q, want %q", short(l), s, want)
		}
		if back, e := ranges.Parse(s); !slices.Equal(back, l) || e != nil {
			t.Errorf("%q: %s, %v", s, short(back), e)
		}
	}
	eachList(2, func(l []api.Range) {
		if _, named := checked(l); named != nil && ranges.Text(l) != "" {
			t.Errorf("%s: %q", short(l), ranges.Text(l))
		}
	})
	if s := ranges.Text(row(2001)); s != "" {
		t.Errorf("one too many: %d bytes", len(s))
	}
	var l []api.Range
	for _, r := range []rune{0, 0xf, 0x10, 0xfff, 0x1000, 0xffff, 0x10000, 0xfffff, 0x100000, 0x10ffff} {
		l = append(l, api.Range{Lo: r, Hi: r, Value: len(strconv.Itoa(int(r)))})
	}
	want := "0000 1\n000F 2\n0010 2\n0FFF 4\n1000 4\nFFFF 5\n10000 5\nFFFFF 7\n100000 7\n10FFFF 7\n"
	if s := ranges.Text(l); s != want {
		t.Errorf("%q, want %q", s, want)
	}
}

var aLine = regexp.MustCompile(`^([0-9A-F]{4}|[1-9A-F][0-9A-F]{4,5})(?:\.\.([0-9A-F]{4}|[1-9A-F][0-9A-F]{4,5}))? (0|[1-9][0-9]{0,6})$`)

// read is what Parse should tell, by another way than the program's.
func read(s string) (l []api.Range, place int, named error) {
	lines := strings.SplitAfter(s, "\n")
	for i, line := range lines[:len(lines)-1] {
		m := aLine.FindStringSubmatch(strings.TrimSuffix(line, "\n"))
		if m == nil || m[1] == m[2] {
			return nil, i, api.ErrForm
		}
		if m[2] == "" {
			m[2] = m[1]
		}
		lo, _ := strconv.ParseInt(m[1], 16, 32)
		hi, _ := strconv.ParseInt(m[2], 16, 32)
		value, _ := strconv.Atoi(m[3])
		l = append(l, api.Range{Lo: rune(lo), Hi: rune(hi), Value: value})
	}
	if lines[len(lines)-1] != "" {
		return nil, len(lines) - 1, api.ErrEnd
	}
	if place, named = checked(l); named != nil {
		l = nil
	}
	return l, place, named
}

// wantRead fails unless Parse tells what it should.
func wantRead(t *testing.T, s string) {
	t.Helper()
	want, place, named := read(s)
	got, e := ranges.Parse(s)
	wantFault(t, strconv.Quote(s), e, place, named)
	if !slices.Equal(got, want) {
		t.Errorf("%q: %s, want %s", s, short(got), short(want))
	}
	if e == nil && ranges.Text(got) != s {
		t.Errorf("%q is written as %q", s, ranges.Text(got))
	}
}

func TestParseNamedEdges(t *testing.T) {
	for _, c := range []struct {
		s     string
		place int
		named error
	}{
		{"", 0, nil},
		{"\n", 0, api.ErrForm}, {"0041 1\n\n", 1, api.ErrForm}, {"\n0041 1\n", 0, api.ErrForm},
		{"0041 1", 0, api.ErrEnd}, {"x", 0, api.ErrEnd}, {"0041 1\n0042 1", 1, api.ErrEnd}, {"0041 1\n ", 1, api.ErrEnd},
		{"41 1\n0042 1", 0, api.ErrForm},
		{"0041 1\n", 0, nil}, {"041 1\n", 0, api.ErrForm}, {"00041 1\n", 0, api.ErrForm}, {"000041 1\n", 0, api.ErrForm}, {"0010FFFF 1\n", 0, api.ErrForm},
		{"10FFFF 1\n", 0, nil}, {"10FFF 1\n", 0, nil}, {"010FFF 1\n", 0, api.ErrForm}, {"0FFFF 1\n", 0, api.ErrForm},
		{"0041..00005A 1\n", 0, api.ErrForm}, {"0041..5A 1\n", 0, api.ErrForm},
		{"00e9 1\n", 0, api.ErrForm}, {"0041..00e9 1\n", 0, api.ErrForm}, {"00G0 1\n", 0, api.ErrForm}, {"00:0 1\n", 0, api.ErrForm}, {"00@0 1\n", 0, api.ErrForm}, {"00/0 1\n", 0, api.ErrForm},
		{"+041 1\n", 0, api.ErrForm}, {"-041 1\n", 0, api.ErrForm}, {"0x41 1\n", 0, api.ErrForm}, {"0_41 1\n", 0, api.ErrForm},
		{"0041..0041 1\n", 0, api.ErrForm}, {"0041..0042 1\n", 0, nil}, {"0042..0041 1\n", 0, api.ErrRange},
		{"0041.0042 1\n", 0, api.ErrForm}, {"0041...0042 1\n", 0, api.ErrForm}, {"0041....0042 1\n", 0, api.ErrForm}, {"0041..0042..0043 1\n", 0, api.ErrForm}, {"0041.. 1\n", 0, api.ErrForm}, {"..0041 1\n", 0, api.ErrForm},
		{"0041  1\n", 0, api.ErrForm}, {" 0041 1\n", 0, api.ErrForm}, {"0041 1 \n", 0, api.ErrForm}, {"0041\t1\n", 0, api.ErrForm}, {"0041 1\r\n", 0, api.ErrForm}, {"0041\n", 0, api.ErrForm}, {"0041 \n", 0, api.ErrForm}, {" 1\n", 0, api.ErrForm}, {"0041 1 2\n", 0, api.ErrForm},
		{"0041 0\n", 0, nil}, {"0041 00\n", 0, api.ErrForm}, {"0041 01\n", 0, api.ErrForm}, {"0041 -1\n", 0, api.ErrForm}, {"0041 +1\n", 0, api.ErrForm}, {"0041 A\n", 0, api.ErrForm}, {"0041 1_0\n", 0, api.ErrForm},
		{"0041 999999\n", 0, nil}, {"0041 1000000\n", 0, api.ErrRange}, {"0041 9999999\n", 0, api.ErrRange}, {"0041 10000000\n", 0, api.ErrForm}, {"0041 0999999\n", 0, api.ErrForm},
		{"0041 99999999999999999999999999\n", 0, api.ErrForm}, {"99999999999999999999999999 1\n", 0, api.ErrForm},
		{"110000 1\n", 0, api.ErrRange}, {"FFFFFF 1\n", 0, api.ErrRange}, {"10FFFF..110000 1\n", 0, api.ErrRange}, {"1000000 1\n", 0, api.ErrForm},
		{"0042 1\n0041 1\n", 1, api.ErrOrder}, {"0041..0043 1\n0043 1\n", 1, api.ErrOrder}, {"0041..0043 1\n0044 1\n", 0, nil},
		{"D800..DFFF 1\n", 0, nil},
		// All lines are read ahead of what Check tells.
		{"0042..0041 1\n41 1\n", 1, api.ErrForm}, {"0042..0041 1\n0041 1", 1, api.ErrEnd}, {"0042 1\n0041 1\n5 1\n", 2, api.ErrForm},
		{"\xff041 1\n", 0, api.ErrForm}, {"0041 1\x00\n", 0, api.ErrForm}, {"0041 \u0661\n", 0, api.ErrForm},
	} {
		_, e := ranges.Parse(c.s)
		wantFault(t, strconv.Quote(c.s), e, c.place, c.named)
		wantRead(t, c.s)
	}
}

func TestParseLongTexts(t *testing.T) {
	full := written(row(2000))
	for _, c := range []struct {
		s     string
		place int
		named error
	}{
		{full, 0, nil},
		{full + "FFFF 1\n", 0, api.ErrFull}, {"0042..0041 1\n" + full, 0, api.ErrFull},
		{full + "FFFF 1\n\n", 2001, api.ErrForm}, {full + "FFFF 1", 2000, api.ErrEnd},
		{full + "x\n", 2000, api.ErrForm},
	} {
		l, e := ranges.Parse(c.s)
		wantFault(t, fmt.Sprintf("%d bytes", len(c.s)), e, c.place, c.named)
		if e != nil && len(l) != 0 {
			t.Errorf("%s beside an error", short(l))
		}
	}
}

// TestParseNearTexts: texts that are tables' but for one byte, or for two.
func TestParseNearTexts(t *testing.T) {
	bytes := []byte("0159AFGaf. \n-\x00\xff")
	near := func(s string, do func(string)) {
		for i := range len(s) + 1 {
			for _, b := range bytes {
				do(s[:i] + string([]byte{b}) + s[i:])
				if i < len(s) {
					do(s[:i] + string([]byte{b}) + s[i+1:])
				}
			}
			if i < len(s) {
				do(s[:i] + s[i+1:])
			}
		}
	}
	for _, s := range []string{"0041 1\n", "0041..005A 3\n", "10FFFF 999999\n", "FFFF..10000 0\n", "0041..005A 3\n00E9 0\n"} {
		wantRead(t, s)
		near(s, func(s string) {
			wantRead(t, s)
			near(s, func(s string) { wantRead(t, s) })
		})
	}
}

func FuzzParse(f *testing.F) {
	for _, s := range []string{"", "0041..005A 3\n00E9 0\n10FFFF 12\n", "0042..0041 1\n", "0041 1000000\n", "1000000 1\n"} {
		f.Add(s)
	}
	f.Fuzz(wantRead)
}
