package decomp_test

import (
	"errors"
	"fmt"
	"math"
	"math/rand"
	"slices"
	"testing"

	"eponym/api"
	"eponym/decomp"
	"eponym/ranges"
)

// wantFault fails unless the error is just a Fault of that named error at that place.
func wantFault(t *testing.T, what string, e error, place int, named error) {
	t.Helper()
	if named == nil {
		if e != nil {
			t.Errorf("%s: %v, want no error", what, e)
		}
		return
	}
	var f *api.Fault
	if !errors.As(e, &f) {
		t.Errorf("%s: %v is no Fault", what, e)
		return
	}
	if f.At != place || !errors.Is(e, named) {
		t.Errorf("%s: %q at %d, want %q at %d", what, f.Err, f.At, named, place)
	}
}

// short tells a norm, or how long it is.
func short(n api.Norm) string {
	if len(n.Rows) > 20 || len(n.Classes) > 20 || len(n.Excluded) > 20 {
		return fmt.Sprintf("%d rows, %d classes, %d excluded", len(n.Rows), len(n.Classes), len(n.Excluded))
	}
	return fmt.Sprintf("%x", n)
}

// row is a row of a norm.
func row(from rune, to ...rune) api.Row { return api.Row{From: from, To: to} }

// class is a range of one rune with a class.
func class(r rune, value int) api.Range { return api.Range{Lo: r, Hi: r, Value: value} }

// norm is some of what Unicode tells of letters and of marks.
func norm() api.Norm {
	return api.Norm{
		Rows: []api.Row{
			row(0xc5, 'A', 0x30a), row(0xe2, 'a', 0x302), row(0xe9, 'e', 0x301),
			row(0x340, 0x300), row(0x344, 0x308, 0x301), row(0x374, 0x2b9), row(0x958, 0x915, 0x93c),
			row(0x1e61, 's', 0x307), row(0x1e63, 's', 0x323), row(0x1e69, 0x1e63, 0x307),
			row(0x1ea1, 'a', 0x323), row(0x1ead, 0x1ea1, 0x302), row(0x212b, 0xc5),
			row(0xfb2a, 0x5e9, 0x5c1), row(0x1109a, 0x11099, 0x110ba),
		},
		Classes: []api.Range{
			{Lo: 0x300, Hi: 0x302, Value: 230}, {Lo: 0x307, Hi: 0x308, Value: 230}, class(0x30a, 230),
			class(0x323, 220), class(0x327, 202), class(0x334, 1), {Lo: 0x340, Hi: 0x341, Value: 230}, class(0x344, 230),
			class(0x345, 240), class(0x5c1, 24), class(0x5c2, 25), class(0x93c, 7), class(0x110ba, 7),
		},
		Excluded: []rune{0x958, 0xfb2a},
	}
}

// chain is so many rows that lead to one another, the last of which has a second rune.
func chain(n int) (rows []api.Row) {
	for i := range rune(n - 1) {
		rows = append(rows, row(0x101+i, 0x100+i))
	}
	return append(rows, row(0x100+rune(n), 0x100+rune(n)-1, 0x323))
}

// many are so many rows that don't lead to one another.
func many(n int) (rows []api.Row) {
	for i := range rune(n) {
		rows = append(rows, row(0x10000+i, 'a'+i%2, 0x20000+i))
	}
	return rows
}

// rising are so many runes.
func rising(n int) (l []rune) {
	for i := range rune(n) {
		l = append(l, 0x30000+2*i)
	}
	return l
}

// marks are so many ranges with classes.
func marks(n int) (l []api.Range) {
	for i := range rune(n) {
		l = append(l, class(0x40000+2*i, 1+int(i)%254))
	}
	return l
}

// ofHangul are all runes of Hangul, put together part by part.
var ofHangul = func() map[rune][]rune {
	all := map[rune][]rune{}
	syllable := rune(0xac00)
	for l := rune(0x1100); l <= 0x1112; l++ {
		all[l] = []rune{l}
		for v := rune(0x1161); v <= 0x1175; v++ {
			all[v] = []rune{v}
			all[syllable] = []rune{l, v}
			syllable++
			for t := rune(0x11a8); t <= 0x11c2; t++ {
				all[t] = []rune{t}
				all[syllable] = []rune{l, v, t}
				syllable++
			}
		}
	}
	return all
}()

func right(r rune) bool { return 0 <= r && r < 0xd800 || 0xe000 <= r && r < 0x110000 }

func plain(r rune) bool { return right(r) && ofHangul[r] == nil }

// classOf is a rune's class, by another way than the program's.
func classOf(n api.Norm, r rune) int {
	for _, one := range n.Classes {
		if one.Lo <= r && r <= one.Hi {
			return one.Value
		}
	}
	return 0
}

// composing tells whether a row composes, by another way than the program's.
func composing(n api.Norm, one api.Row) bool {
	return len(one.To) == 2 && !slices.Contains(n.Excluded, one.From) && classOf(n, one.From)+classOf(n, one.To[0]) == 0
}

// chained is how many rows lead on from a rune, among those ahead.
func chained(ahead []api.Row, r rune) int {
	for i, one := range ahead {
		if one.From == r {
			return 1 + chained(ahead[:i], one.To[0])
		}
	}
	return 0
}

// rowFault is what is wrong with a row, by another way than the program's.
func rowFault(rows []api.Row, i int) error {
	from, to := rows[i].From, rows[i].To
	if !plain(from) {
		return api.ErrRange
	}
	if i > 0 && from-rows[i-1].From < 1 {
		return api.ErrOrder
	}
	wrong := func(r rune) bool { return !plain(r) }
	if len(to) == 0 || len(to) > 2 || slices.ContainsFunc(to, wrong) || from-to[0] < 1 {
		return api.ErrForm
	}
	if len(to) == 2 && slices.ContainsFunc(rows, func(one api.Row) bool { return one.From == to[1] }) {
		return api.ErrDeep
	}
	if chained(rows[:i+1], from) > 8 {
		return api.ErrDeep
	}
	return nil
}

// touchesHangul tells whether a table's range has a rune of Hangul, rune by rune.
func touchesHangul(one api.Range) bool {
	for r := one.Lo; r <= one.Hi; r++ {
		if ofHangul[r] != nil {
			return true
		}
	}
	return false
}

// checked is what Check should tell, by another way than the program's.
func checked(n api.Norm) (place int, named error) {
	if len(n.Rows) > 2000 || len(n.Excluded) > 2000 {
		return 0, api.ErrFull
	}
	for i := range n.Rows {
		if named := rowFault(n.Rows, i); named != nil {
			return i, named
		}
	}
	var f *api.Fault
	if errors.As(ranges.Check(n.Classes), &f) {
		return f.At, f.Err
	}
	for i, one := range n.Classes {
		if one.Value <= 0 || one.Value >= 255 || touchesHangul(one) {
			return i, api.ErrKind
		}
	}
	for i, r := range n.Excluded {
		if !right(r) {
			return i, api.ErrRange
		}
		if i > 0 && n.Excluded[i-1] >= r {
			return i, api.ErrOrder
		}
	}
	for i, one := range n.Rows {
		same := func(ahead api.Row) bool { return composing(n, ahead) && slices.Equal(ahead.To, one.To) }
		if composing(n, one) && slices.ContainsFunc(n.Rows[:i], same) {
			return i, api.ErrThere
		}
	}
	return 0, nil
}

// apart is a rune's parts, by another way than the program's.
func apart(n api.Norm, r rune) []rune {
	if parts := ofHangul[r]; parts != nil {
		return parts
	}
	for _, one := range n.Rows {
		if one.From == r {
			return slices.Concat(apart(n, one.To[0]), one.To[1:])
		}
	}
	return []rune{r}
}

// inOrder is runes in order, by another way than the program's: neighbours change places till none need.
func inOrder(n api.Norm, l []rune) []rune {
	l = slices.Clone(l)
	for again := true; again; {
		again = false
		for i := 1; i < len(l); i++ {
			if ahead, behind := classOf(n, l[i-1]), classOf(n, l[i]); behind > 0 && ahead > behind {
				l[i-1], l[i] = l[i], l[i-1]
				again = true
			}
		}
	}
	return l
}

// allApart is what All should tell, by another way than the program's.
func allApart(n api.Norm, l []rune) (out []rune) {
	for _, r := range l {
		out = append(out, apart(n, r)...)
	}
	return inOrder(n, out)
}

// eachOf hands over all lists of at most so many of what is handed in.
func eachOf[T any](telling []T, most int, do func([]T)) {
	var grow func([]T)
	grow = func(l []T) {
		do(slices.Clone(l))
		if len(l) == most {
			return
		}
		for _, one := range telling {
			grow(append(slices.Clone(l), one))
		}
	}
	grow(nil)
}

var tellingRows = []api.Row{
	row(0x100, 0x61, 0x301), row(0x101, 0x61, 0x301), row(0x101, 0x100), row(0x102, 0x101, 0x301), row(0x102, 0x61, 0x101), row(0x102, 0x61, 0x102),
	row(0x301, 0x300), row(0x302, 0x61, 0x301), row(0x302, 0x61, 0x100),
	row(0x100), row(0x100, 0x61, 0x301, 0x302), row(0x100, 0x100), row(0x100, 0x101, 0x301), row(0x100, 0xd800), row(0x101, 0x61, 0xdfff), row(0x101, -1), row(0x101, 0x61, 0x110000), row(0x101, 0x61, 0x1100), row(0x2000, 0x1175),
	row(0xac00, 0x61), row(0x1112, 0x61), row(0x1113, 0x61, 0x1160), row(-1, 0x61), row(0xdfff, 0x61), row(0xe000, 0xd7a3), row(0xe000, 0x61), row(0x10ffff, 0x61, 0x10fffe), row(0x110000, 0x61), row(math.MinInt32, math.MaxInt32), row(math.MaxInt32, math.MinInt32, math.MinInt32),
}

var tellingClasses = [][]api.Range{
	nil, {class(0x61, 230)}, {class(0x100, 1), class(0x301, 254)}, {class(0x301, 230), {Lo: 0x302, Hi: 0x10ff, Value: 220}}, {class(0x301, 0)}, {class(0x301, 1), class(0x302, 255)}, {{Lo: 0x10ff, Hi: 0x1100, Value: 1}}, {class(0x301, 230), class(0x300, 230)}, {class(0x301, 255), class(0x301, 230)}, {class(-1, 1)},
}

var tellingExcluded = [][]rune{nil, {0x100}, {0x101}, {0x100, 0x101, 0x102}, {0x101, 0x100}, {0x100, 0x100}, {0xd800}, {0x100, -1}, {0xac00, 0x110000}, {math.MinInt32, 0x100}}

// eachNorm hands over norms of all kinds, most of which aren't right.
func eachNorm(do func(api.Norm)) {
	eachOf(tellingRows, 3, func(rows []api.Row) {
		do(api.Norm{Rows: rows})
		if len(rows) > 2 {
			return
		}
		for _, classes := range tellingClasses {
			for _, excluded := range tellingExcluded {
				do(api.Norm{Rows: rows, Classes: classes, Excluded: excluded})
			}
		}
	})
}

// rightNorms are norms that are right, of all kinds.
func rightNorms(t *testing.T) (all []api.Norm) {
	all = []api.Norm{norm(), {Rows: chain(8)}, {Rows: chain(8), Classes: []api.Range{class(0x61, 254), class(0x323, 1)}}, {Rows: many(2000), Classes: marks(2000), Excluded: rising(2000)}}
	eachOf(tellingRows, 2, func(rows []api.Row) {
		for _, classes := range tellingClasses {
			for _, excluded := range tellingExcluded {
				n := api.Norm{Rows: rows, Classes: classes, Excluded: excluded}
				if _, named := checked(n); named == nil {
					all = append(all, n)
				}
			}
		}
	})
	if len(all) < 100 {
		t.Fatalf("%d norms are too few to tell anything", len(all))
	}
	for _, n := range all[:3] {
		if place, named := checked(n); named != nil {
			t.Fatalf("%s: %v at %d", short(n), named, place)
		}
	}
	return all
}

// edges are runes at, below and above those that a norm names, those of Hangul, and runes that none has.
func edges(n api.Norm) []rune {
	l := []rune{math.MinInt32, -1, 0, 'a', 'b', 0xd800, 0xdfff, 0x10ffff, 0x110000, math.MaxInt32}
	for _, r := range []rune{0xac00, 0xac1b, 0xac1c, 0xd788, 0xd7a3, 0x1100, 0x1112, 0x1161, 0x1175, 0x11a8, 0x11c2} {
		l = append(l, r-1, r, r+1)
	}
	for _, one := range n.Rows[:min(len(n.Rows), 40)] {
		l = append(append(l, one.From-1, one.From, one.From+1), one.To...)
	}
	for _, one := range n.Classes[:min(len(n.Classes), 40)] {
		l = append(l, one.Lo-1, one.Lo, one.Hi, one.Hi+1)
	}
	if len(n.Rows) > 40 {
		l = append(l, n.Rows[len(n.Rows)/2].From, n.Rows[len(n.Rows)-1].From, n.Rows[len(n.Rows)-1].To[1])
	}
	slices.Sort(l)
	return slices.Compact(l)
}

func TestCheckOfAllKinds(t *testing.T) {
	seen := map[error]int{}
	eachNorm(func(n api.Norm) {
		place, named := checked(n)
		seen[named]++
		wantFault(t, short(n), decomp.Check(n), place, named)
	})
	for _, named := range []error{nil, api.ErrRange, api.ErrOrder, api.ErrForm, api.ErrDeep, api.ErrKind, api.ErrThere} {
		if seen[named] < 20 {
			t.Errorf("%v: only %d norms", named, seen[named])
		}
	}
}

func TestCheckSizes(t *testing.T) {
	wrong := row(-1, 'a')
	for _, c := range []struct {
		n     api.Norm
		place int
		named error
	}{
		{api.Norm{}, 0, nil}, {api.Norm{Rows: []api.Row{}, Classes: []api.Range{}, Excluded: []rune{}}, 0, nil}, {norm(), 0, nil},
		{api.Norm{Rows: many(2000)}, 0, nil}, {api.Norm{Rows: many(2001)}, 0, api.ErrFull},
		{api.Norm{Excluded: rising(2000)}, 0, nil}, {api.Norm{Excluded: rising(2001)}, 0, api.ErrFull},
		{api.Norm{Classes: marks(2000)}, 0, nil}, {api.Norm{Classes: marks(2001)}, 0, api.ErrFull},
		{api.Norm{Rows: many(2000), Classes: marks(2000), Excluded: rising(2000)}, 0, nil},
		// Sizes of rows and of excluded runes are looked at ahead of all rows; that of classes behind them.
		{api.Norm{Rows: append(many(1), wrong), Excluded: rising(2001)}, 0, api.ErrFull},
		{api.Norm{Rows: append(many(1), wrong), Excluded: rising(2000)}, 1, api.ErrRange},
		{api.Norm{Rows: append(many(1), wrong), Classes: marks(2001)}, 1, api.ErrRange},
		{api.Norm{Classes: marks(2001), Excluded: []rune{-1}}, 0, api.ErrFull},
		{api.Norm{Rows: append([]api.Row{wrong}, many(2000)...)}, 0, api.ErrFull},
		{api.Norm{Rows: append(many(1999), wrong)}, 1999, api.ErrRange},
		{api.Norm{Rows: append(many(1999), row(0x10000, 'a'))}, 1999, api.ErrOrder},
		{api.Norm{Rows: append(many(1999), row(0x10ffff))}, 1999, api.ErrForm},
		{api.Norm{Rows: append(many(1999), row(0x20000, 'a'))}, 0, api.ErrDeep},
		{api.Norm{Rows: append(many(1999), row(0x30000, 'a', 0x10000))}, 1999, api.ErrDeep},
		{api.Norm{Rows: append(many(1999), row(0x30000, 'a', 0x20000))}, 1999, api.ErrThere},
		{api.Norm{Excluded: append(rising(1999), 0x30000)}, 1999, api.ErrOrder},
		{api.Norm{Classes: append(marks(1999), class(0x10ffff, 255))}, 1999, api.ErrKind},
	} {
		wantFault(t, short(c.n), decomp.Check(c.n), c.place, c.named)
	}
}

func TestCheckRows(t *testing.T) {
	for _, c := range []struct {
		rows  []api.Row
		place int
		named error
	}{
		{[]api.Row{row(0xd7ff, 'a')}, 0, nil}, {[]api.Row{row(0xd800, 'a')}, 0, api.ErrRange}, {[]api.Row{row(0xdfff, 'a')}, 0, api.ErrRange}, {[]api.Row{row(0xe000, 'a')}, 0, nil},
		{[]api.Row{row(-1, -2)}, 0, api.ErrRange}, {[]api.Row{row(0, 0)}, 0, api.ErrForm}, {[]api.Row{row(1, 0)}, 0, nil}, {[]api.Row{row(0x10ffff, 'a')}, 0, nil}, {[]api.Row{row(0x110000, 'a')}, 0, api.ErrRange},
		{[]api.Row{row('b', 'a'), row('b', 'a')}, 1, api.ErrOrder}, {[]api.Row{row('c', 'a'), row('b', 'a')}, 1, api.ErrOrder}, {[]api.Row{row('b', 'a'), row('c', 'a')}, 0, nil},
		{[]api.Row{{From: 'b'}}, 0, api.ErrForm}, {[]api.Row{{From: 'b', To: []rune{}}}, 0, api.ErrForm}, {[]api.Row{row('b', 'a')}, 0, nil}, {[]api.Row{row('b', 'a', 'z')}, 0, nil}, {[]api.Row{row('b', 'a', 'z', 'y')}, 0, api.ErrForm},
		{[]api.Row{row('b', 'b')}, 0, api.ErrForm}, {[]api.Row{row('b', 'c')}, 0, api.ErrForm}, {[]api.Row{row('b', 'c', 'a')}, 0, api.ErrForm},
		{[]api.Row{row('b', -1)}, 0, api.ErrForm}, {[]api.Row{row('b', 'a', -1)}, 0, api.ErrForm}, {[]api.Row{row('b', 'a', 0x10ffff)}, 0, nil}, {[]api.Row{row('b', 'a', 0x110000)}, 0, api.ErrForm}, {[]api.Row{row('b', 'a', 0xd800)}, 0, api.ErrForm}, {[]api.Row{row(0xe000, 0xd800)}, 0, api.ErrForm},
		{[]api.Row{row('b', 'a', 'b')}, 0, api.ErrDeep}, {[]api.Row{row('b', 'a', 'c'), row('c', 'a')}, 0, api.ErrDeep}, {[]api.Row{row('b', 'a'), row('c', 'a', 'b')}, 1, api.ErrDeep}, {[]api.Row{row('b', 'a'), row('c', 'b', 'a')}, 0, nil},
		{chain(8), 0, nil}, {chain(9), 8, api.ErrDeep}, {chain(20), 8, api.ErrDeep}, {append(chain(8), row(0x200, 0x108)), 8, api.ErrDeep}, {append(chain(8), row(0x200, 0x107, 0x324)), 0, nil},
		// Of one row the range is looked at ahead of the order, that ahead of the form, and that ahead of chains.
		{[]api.Row{row('c', 'a'), row(-1)}, 1, api.ErrRange}, {[]api.Row{row('c', 'a'), row('b')}, 1, api.ErrOrder}, {[]api.Row{row('c', 'a'), row('b', 'a', 'c')}, 1, api.ErrOrder}, {[]api.Row{row('c', 'a'), row('d', 'e', 'c')}, 1, api.ErrForm}, {[]api.Row{row('b', 'b', 'b')}, 0, api.ErrForm},
		// Of several, the first is told, though what is wrong with it lies in one behind that is at fault itself.
		{[]api.Row{row('d', 'a', 'b'), row('b')}, 0, api.ErrDeep}, {[]api.Row{row('d', 'a', 0xac00), row(0xac00)}, 0, api.ErrForm}, {[]api.Row{row('d', 'a', 'z'), row('e'), row(-1), row('z')}, 0, api.ErrDeep},
		{[]api.Row{row('d', 'a'), row('e'), row(-1)}, 1, api.ErrForm}, {[]api.Row{row('d', 'c'), row('c', 'b')}, 1, api.ErrOrder},
		{append(chain(9), slices.Repeat([]api.Row{row(1, 0)}, 30)...), 8, api.ErrDeep}, {append(chain(8), slices.Repeat([]api.Row{row(1, 0)}, 30)...), 8, api.ErrOrder},
	} {
		wantFault(t, fmt.Sprintf("%x", c.rows), decomp.Check(api.Norm{Rows: c.rows}), c.place, c.named)
	}
}

func TestCheckHangul(t *testing.T) {
	for r := rune(-1); r <= 0x110000; r++ {
		if r > 0x3000 && r < 0xab00 || r > 0xe100 && r < 0x10ff00 {
			continue
		}
		place, named := checked(api.Norm{Rows: []api.Row{row(r, 0)}})
		wantFault(t, fmt.Sprintf("from %x", r), decomp.Check(api.Norm{Rows: []api.Row{row(r, 0)}}), place, named)
		for _, to := range [][]rune{{r}, {'a', r}} {
			n := api.Norm{Rows: []api.Row{row(0x10ffff, to...)}}
			place, named = checked(n)
			wantFault(t, fmt.Sprintf("to %x", to), decomp.Check(n), place, named)
		}
		n := api.Norm{Classes: []api.Range{class(r, 230)}, Excluded: []rune{r}}
		place, named = checked(n)
		wantFault(t, fmt.Sprintf("class of %x", r), decomp.Check(n), place, named)
	}
}

func TestCheckClasses(t *testing.T) {
	between := func(lo, hi rune) []api.Range { return []api.Range{class('a', 1), {Lo: lo, Hi: hi, Value: 230}} }
	for _, c := range []struct {
		classes []api.Range
		place   int
		named   error
	}{
		{[]api.Range{class('a', -1)}, 0, api.ErrRange}, {[]api.Range{class('a', 0)}, 0, api.ErrKind}, {[]api.Range{class('a', 1)}, 0, nil}, {[]api.Range{class('a', 254)}, 0, nil}, {[]api.Range{class('a', 255)}, 0, api.ErrKind}, {[]api.Range{class('a', 999999)}, 0, api.ErrKind}, {[]api.Range{class('a', 1000000)}, 0, api.ErrRange},
		{between('a', 'b'), 1, api.ErrOrder}, {between('c', 'b'), 1, api.ErrRange}, {between(0x10ffff, 0x110000), 1, api.ErrRange}, {between(0xd800, 0xdfff), 0, nil},
		{between(0x10f0, 0x10ff), 0, nil}, {between(0x10f0, 0x1100), 1, api.ErrKind}, {between(0x1112, 0x1113), 1, api.ErrKind}, {between(0x1113, 0x1160), 0, nil}, {between(0x1160, 0x1161), 1, api.ErrKind}, {between(0x1175, 0x1176), 1, api.ErrKind}, {between(0x1176, 0x11a7), 0, nil}, {between(0x11a7, 0x11a8), 1, api.ErrKind}, {between(0x11c2, 0x11c3), 1, api.ErrKind}, {between(0x11c3, 0xabff), 0, nil}, {between(0xabff, 0xac00), 1, api.ErrKind}, {between(0xd7a3, 0xd7a4), 1, api.ErrKind}, {between(0xd7a4, 0x10ffff), 0, nil},
		{between(0x1105, 0x1106), 1, api.ErrKind}, {between(0x1000, 0x1200), 1, api.ErrKind}, {between(0xb000, 0xc000), 1, api.ErrKind}, {between('b', 0x10ffff), 1, api.ErrKind},
		// Whether it is a table is looked at ahead of all classes.
		{[]api.Range{class('a', 255), class('a', 1)}, 1, api.ErrOrder}, {[]api.Range{class('a', 255), class('b', 0)}, 0, api.ErrKind}, {[]api.Range{class('a', 255), class('b', -1)}, 1, api.ErrRange},
	} {
		wantFault(t, fmt.Sprintf("%x", c.classes), decomp.Check(api.Norm{Classes: c.classes}), c.place, c.named)
		wrong := api.Norm{Classes: c.classes, Excluded: []rune{-1}, Rows: []api.Row{row(0x200, 'e', 'f'), row(0x201, 'e', 'f')}}
		if c.named == nil {
			c.place, c.named = 0, api.ErrRange
		}
		wantFault(t, fmt.Sprintf("%x ahead of what is behind", c.classes), decomp.Check(wrong), c.place, c.named)
	}
	n := api.Norm{Rows: []api.Row{row('b')}, Classes: []api.Range{class('a', 0)}}
	wantFault(t, "rows ahead of classes", decomp.Check(n), 0, api.ErrForm)
}

func TestCheckExcluded(t *testing.T) {
	twice := []api.Row{row('c', 'a', 'z'), row('d', 'a', 'z')}
	for _, c := range []struct {
		excluded []rune
		place    int
		named    error
	}{
		{[]rune{0, 0xd7ff, 0xe000, 0x10ffff}, 0, nil}, {[]rune{0x1100, 0xac00}, 0, nil}, {[]rune{-1}, 0, api.ErrRange}, {[]rune{1, 0xd800}, 1, api.ErrRange}, {[]rune{1, 0xdfff}, 1, api.ErrRange}, {[]rune{1, 2, 0x110000}, 2, api.ErrRange},
		{[]rune{7, 7}, 1, api.ErrOrder}, {[]rune{7, 6}, 1, api.ErrOrder}, {[]rune{7, 8}, 0, nil}, {[]rune{7, -1}, 1, api.ErrRange}, {[]rune{7, 6, -1}, 1, api.ErrOrder},
	} {
		wantFault(t, fmt.Sprintf("%x", c.excluded), decomp.Check(api.Norm{Excluded: c.excluded}), c.place, c.named)
		if c.named == nil {
			c.place, c.named = 1, api.ErrThere
		}
		wantFault(t, fmt.Sprintf("%x ahead of what is behind", c.excluded), decomp.Check(api.Norm{Rows: twice, Excluded: c.excluded}), c.place, c.named)
	}
}

func TestCheckTwice(t *testing.T) {
	two := []api.Row{row('c', 'a', 'z'), row('d', 'a', 'z')}
	three := append(slices.Clone(two), row('e', 'a', 'z'))
	for _, c := range []struct {
		n     api.Norm
		place int
		named error
	}{
		{api.Norm{Rows: two}, 1, api.ErrThere}, {api.Norm{Rows: three}, 1, api.ErrThere},
		{api.Norm{Rows: two, Excluded: []rune{'c'}}, 0, nil}, {api.Norm{Rows: two, Excluded: []rune{'d'}}, 0, nil}, {api.Norm{Rows: two, Excluded: []rune{'a', 'z'}}, 1, api.ErrThere},
		{api.Norm{Rows: three, Excluded: []rune{'c'}}, 2, api.ErrThere}, {api.Norm{Rows: three, Excluded: []rune{'d'}}, 2, api.ErrThere}, {api.Norm{Rows: three, Excluded: []rune{'d', 'e'}}, 0, nil},
		{api.Norm{Rows: two, Classes: []api.Range{class('c', 1)}}, 0, nil}, {api.Norm{Rows: two, Classes: []api.Range{class('d', 1)}}, 0, nil}, {api.Norm{Rows: two, Classes: []api.Range{class('a', 1)}}, 0, nil}, {api.Norm{Rows: two, Classes: []api.Range{class('z', 1)}}, 1, api.ErrThere},
		{api.Norm{Rows: three, Classes: []api.Range{class('c', 1)}}, 2, api.ErrThere},
		{api.Norm{Rows: []api.Row{row('c', 'a'), row('d', 'a')}}, 0, nil}, {api.Norm{Rows: []api.Row{row('c', 'a', 'z'), row('d', 'a')}}, 0, nil}, {api.Norm{Rows: []api.Row{row('c', 'a', 'z'), row('d', 'a', 'y')}}, 0, nil}, {api.Norm{Rows: []api.Row{row('d', 'a', 'z'), row('e', 'b', 'z')}}, 0, nil}, {api.Norm{Rows: []api.Row{row('d', 'a', 'b'), row('e', 'b', 'a')}}, 0, nil},
		{api.Norm{Rows: []api.Row{row('d', 'a', 'z'), row('e', 'b', 'y'), row('f', 'b', 'y'), row('g', 'a', 'z')}}, 2, api.ErrThere},
	} {
		wantFault(t, short(c.n), decomp.Check(c.n), c.place, c.named)
	}
}

func TestClass(t *testing.T) {
	for _, n := range rightNorms(t) {
		for _, r := range edges(n) {
			if got, want := decomp.Class(n, r), classOf(n, r); got != want {
				t.Errorf("%s: %x has %d, want %d", short(n), r, got, want)
			}
		}
	}
}

func TestComposes(t *testing.T) {
	for _, n := range rightNorms(t) {
		for i, one := range n.Rows {
			if got, want := decomp.Composes(n, i), composing(n, one); got != want {
				t.Errorf("%s: %d: %v, want %v", short(n), i, got, want)
			}
		}
		for _, i := range []int{math.MinInt, -1, len(n.Rows), len(n.Rows) + 1, math.MaxInt} {
			if decomp.Composes(n, i) {
				t.Errorf("%s: there is no row %d", short(n), i)
			}
		}
	}
	want := []bool{true, true, true, false, false, false, false, true, true, true, true, true, false, false, true}
	for i, want := range want {
		if decomp.Composes(norm(), i) != want {
			t.Errorf("%d: %v", i, !want)
		}
	}
}

func TestOne(t *testing.T) {
	n := norm()
	for _, c := range []struct {
		r    rune
		want []rune
	}{
		{0xe9, []rune{'e', 0x301}}, {0xac01, []rune{0x1100, 0x1161, 0x11a8}}, {0xac00, []rune{0x1100, 0x1161}}, {0xac1b, []rune{0x1100, 0x1161, 0x11c2}}, {0xac1c, []rune{0x1100, 0x1162}}, {0xae4c, []rune{0x1101, 0x1161}}, {0xd788, []rune{0x1112, 0x1175}}, {0xd7a3, []rune{0x1112, 0x1175, 0x11c2}}, {0xabff, []rune{0xabff}}, {0xd7a4, []rune{0xd7a4}},
		{0x1100, []rune{0x1100}}, {0x1161, []rune{0x1161}}, {0x11a7, []rune{0x11a7}}, {0x11a8, []rune{0x11a8}},
		{0x212b, []rune{'A', 0x30a}}, {0x1e69, []rune{'s', 0x323, 0x307}}, {0x1ead, []rune{'a', 0x323, 0x302}}, {0x340, []rune{0x300}}, {0x344, []rune{0x308, 0x301}}, {0x958, []rune{0x915, 0x93c}}, {0x1109a, []rune{0x11099, 0x110ba}},
		{'e', []rune{'e'}}, {0x301, []rune{0x301}}, {-1, []rune{-1}}, {0xd800, []rune{0xd800}}, {0x110000, []rune{0x110000}}, {math.MinInt32, []rune{math.MinInt32}}, {math.MaxInt32, []rune{math.MaxInt32}},
	} {
		if got := decomp.One(n, c.r); !slices.Equal(got, c.want) {
			t.Errorf("%x: %x, want %x", c.r, got, c.want)
		}
	}
	for r, want := range ofHangul {
		if got := decomp.One(n, r); !slices.Equal(got, want) {
			t.Errorf("%x: %x, want %x", r, got, want)
		}
	}
	if got := decomp.One(api.Norm{Rows: chain(8)}, 0x108); !slices.Equal(got, []rune{0x100, 0x323}) {
		t.Errorf("a chain: %x", got)
	}
}

func TestOneOfAllKinds(t *testing.T) {
	for _, n := range rightNorms(t) {
		for _, r := range edges(n) {
			if got, want := decomp.One(n, r), apart(n, r); !slices.Equal(got, want) {
				t.Errorf("%s: %x: %x, want %x", short(n), r, got, want)
			}
		}
	}
}

func TestOrderNamedEdges(t *testing.T) {
	n := norm()
	for _, c := range []struct{ l, want []rune }{
		{nil, nil}, {[]rune{}, nil}, {[]rune{'a'}, []rune{'a'}}, {[]rune{0x301}, []rune{0x301}},
		{[]rune{0x301, 0x323}, []rune{0x323, 0x301}}, {[]rune{0x323, 0x301}, []rune{0x323, 0x301}},
		{[]rune{0x301, 0x300, 0x302}, []rune{0x301, 0x300, 0x302}}, {[]rune{0x301, 0x323, 0x300, 0x323, 0x302}, []rune{0x323, 0x323, 0x301, 0x300, 0x302}},
		{[]rune{0x345, 0x301, 0x323, 0x327, 0x334}, []rune{0x334, 0x327, 0x323, 0x301, 0x345}},
		{[]rune{0x301, 'a', 0x323}, []rune{0x301, 'a', 0x323}}, {[]rune{'a', 0x301, 0x323, 'b', 0x345, 0x300, 0x334, 'c'}, []rune{'a', 0x323, 0x301, 'b', 0x334, 0x300, 0x345, 'c'}},
		{[]rune{'b', 'a'}, []rune{'b', 'a'}}, {[]rune{0x301, -1, 0x323}, []rune{0x301, -1, 0x323}}, {[]rune{0x301, 0xe9, 0x323}, []rune{0x301, 0xe9, 0x323}},
		{[]rune{0x340, 0x344, 0x323}, []rune{0x323, 0x340, 0x344}},
	} {
		if got := decomp.Order(n, c.l); !slices.Equal(got, c.want) {
			t.Errorf("%x: %x, want %x", c.l, got, c.want)
		}
	}
}

func TestAllNamedEdges(t *testing.T) {
	n := norm()
	for _, c := range []struct{ l, want []rune }{
		{nil, nil}, {[]rune{}, nil}, {[]rune{'a'}, []rune{'a'}}, {[]rune{0xe9}, []rune{'e', 0x301}}, {[]rune{0xe9, 0x323}, []rune{'e', 0x323, 0x301}},
		{[]rune{0xe2, 0x323, 0x340, 'b'}, []rune{'a', 0x323, 0x302, 0x300, 'b'}}, {[]rune{0x1e61, 0x323}, []rune{'s', 0x323, 0x307}}, {[]rune{0x1e63, 0x307}, []rune{'s', 0x323, 0x307}},
		{[]rune{0x344, 0x323}, []rune{0x323, 0x308, 0x301}}, {[]rune{0xac01, 0xe9}, []rune{0x1100, 0x1161, 0x11a8, 'e', 0x301}}, {[]rune{0x212b, 0x212b}, []rune{'A', 0x30a, 'A', 0x30a}},
		{[]rune{-1, 0x110000}, []rune{-1, 0x110000}},
	} {
		if got := decomp.All(n, c.l); !slices.Equal(got, c.want) {
			t.Errorf("%x: %x, want %x", c.l, got, c.want)
		}
		if got, want := decomp.Is(n, c.l), slices.Equal(c.l, c.want); got != want {
			t.Errorf("%x: %v", c.l, got)
		}
		if !decomp.Is(n, c.want) {
			t.Errorf("%x isn't taken apart", c.want)
		}
	}
}

// wantApart fails unless Order, All and Is tell what they should.
func wantApart(t *testing.T, n api.Norm, l []rune) {
	t.Helper()
	if got, want := decomp.Order(n, l), inOrder(n, l); !slices.Equal(got, want) {
		t.Errorf("%s: %x in order: %x, want %x", short(n), l, got, want)
	}
	want := allApart(n, l)
	if got := decomp.All(n, l); !slices.Equal(got, want) {
		t.Errorf("%s: %x apart: %x, want %x", short(n), l, got, want)
	}
	if got := decomp.Is(n, l); got != slices.Equal(l, want) {
		t.Errorf("%s: %x is apart: %v", short(n), l, got)
	}
}

// wantStays fails unless what is taken apart stays so, alone and behind one another.
func wantStays(t *testing.T, n api.Norm, a, b []rune) {
	t.Helper()
	first, second := decomp.All(n, a), decomp.All(n, b)
	if again := decomp.All(n, first); !slices.Equal(again, first) || !decomp.Is(n, first) {
		t.Errorf("%s: %x, and then %x", short(n), first, again)
	}
	both, parts := decomp.All(n, slices.Concat(a, b)), decomp.All(n, slices.Concat(first, second))
	if !slices.Equal(both, parts) {
		t.Errorf("%s: %x and %x: %x, of their parts %x", short(n), a, b, both, parts)
	}
}

func TestAllOfShortLists(t *testing.T) {
	telling := []rune{'s', 0x323, 0x307, 0x300, 0x340, 0x344, 0x345, 0x1e61, 0x1e69, 0xac01, 0x110000}
	eachOf(telling, 5, func(l []rune) {
		wantApart(t, norm(), l)
		if len(l) == 5 {
			wantStays(t, norm(), l[:2], l[2:])
			return
		}
		for i := range len(l) + 1 {
			wantStays(t, norm(), l[:i], l[i:])
		}
	})
}

func TestAllOfAllKinds(t *testing.T) {
	for _, n := range rightNorms(t) {
		some := edges(n)
		chance := rand.New(rand.NewSource(4))
		for range 20 {
			l := make([]rune, chance.Intn(12))
			for i := range l {
				l[i] = some[chance.Intn(len(some))]
			}
			wantApart(t, n, l)
			cut := chance.Intn(len(l) + 1)
			wantStays(t, n, l[:cut], l[cut:])
		}
	}
}

func TestLongLists(t *testing.T) {
	n := norm()
	chance := rand.New(rand.NewSource(44))
	few := []rune{0x301, 0x323, 0x345, 0x327, 0x300}
	l := make([]rune, 1000)
	for i := range l {
		l[i] = few[chance.Intn(len(few))]
	}
	wantApart(t, n, l)
	wantStays(t, n, l[:500], l[500:])
	long := make([]rune, 200000)
	for i := range long {
		long[i] = few[i%len(few)]
	}
	if got := decomp.All(n, long); len(got) != len(long) || !slices.IsSortedFunc(got, func(a, b rune) int { return classOf(n, a) - classOf(n, b) }) || !decomp.Is(n, got) {
		t.Errorf("%d runes", len(got))
	}
}

// TestAnyNormEnds: whatever the norm, no call panics, and each ends.
func TestAnyNormEnds(t *testing.T) {
	try := func(n api.Norm) {
		l := []rune{math.MinInt32, -1, 0, 'a', 0x61, 0x100, 0x101, 0x102, 0x301, 0xac00, 0x110000, math.MaxInt32}
		_ = decomp.Check(n)
		for i := -1; i <= min(len(n.Rows), 20); i++ {
			_ = decomp.Composes(n, i)
		}
		for _, r := range l {
			_, _ = decomp.Class(n, r), decomp.One(n, r)
		}
		_, _, _ = decomp.Order(n, l), decomp.All(n, l), decomp.Is(n, l)
	}
	eachNorm(try)
	round := []api.Row{row('a', 'b', 'b'), row('b', 'c', 'a'), row('c', 'a', 'c')}
	try(api.Norm{Rows: round, Classes: []api.Range{{Lo: math.MaxInt32, Hi: math.MinInt32, Value: math.MinInt}, {Lo: math.MinInt32, Hi: math.MaxInt32, Value: math.MaxInt}}, Excluded: []rune{9, 1, 9}})
	try(api.Norm{Rows: make([]api.Row, 3000), Classes: make([]api.Range, 3000), Excluded: make([]rune, 3000)})
	try(api.Norm{Rows: slices.Repeat([]api.Row{row('a', 'a', 'a', 'a')}, 3000)})
	try(api.Norm{Rows: chain(5000)})
}

// clone is a norm in memory of its own.
func clone(n api.Norm) api.Norm {
	rows := slices.Clone(n.Rows)
	for i := range rows {
		rows[i].To = slices.Clone(rows[i].To)
	}
	return api.Norm{Rows: rows, Classes: slices.Clone(n.Classes), Excluded: slices.Clone(n.Excluded)}
}

func same(a, b api.Norm) bool {
	rows := slices.EqualFunc(a.Rows, b.Rows, func(a, b api.Row) bool { return a.From == b.From && slices.Equal(a.To, b.To) })
	return rows && slices.Equal(a.Classes, b.Classes) && slices.Equal(a.Excluded, b.Excluded)
}

// TestMemory: answers are new, arguments aren't changed, and what lies behind a list isn't touched.
func TestMemory(t *testing.T) {
	n := norm()
	full := norm()
	n.Rows, n.Classes, n.Excluded = full.Rows[:3], full.Classes[:4], full.Excluded[:1]
	room := []rune{'a', 0x301, 0x323, 0xe9, 0x300, 0x323}
	was := slices.Clone(room)
	l := room[:3]
	for i, get := range []func() []rune{
		func() []rune { return decomp.One(n, 0xe9) }, func() []rune { return decomp.One(n, 'a') }, func() []rune { return decomp.One(n, 0xac00) },
		func() []rune { return decomp.Order(n, l) }, func() []rune { return decomp.All(n, l) }, func() []rune { return decomp.Order(n, l[:1]) }, func() []rune { return decomp.All(n, l[:1]) },
	} {
		first := get()
		want := slices.Clone(first)
		for j := range first {
			first[j] = 0x7777
		}
		first = append(first, 0x7777, 0x7777)
		if again := get(); !slices.Equal(again, want) {
			t.Errorf("%d: %x, want %x", i, again, want)
		}
		if !slices.Equal(room, was) || !same(full, norm()) {
			t.Fatalf("%d: it shares memory with what was handed in", i)
		}
	}
	_, _, _, _ = decomp.Check(n), decomp.Is(n, l), decomp.Composes(n, 0), decomp.Class(n, 0x301)
	if !slices.Equal(room, was) || !same(full, norm()) {
		t.Error("what was handed in is changed")
	}
	if len(decomp.One(n, 0x1ead)) != 1 || decomp.Class(n, 0x345) != 0 || decomp.Composes(n, 3) {
		t.Error("what lies behind a list is read")
	}
	eachOf(tellingRows, 2, func(rows []api.Row) {
		n := api.Norm{Rows: rows, Classes: tellingClasses[3], Excluded: tellingExcluded[3]}
		before := clone(n)
		_ = decomp.Check(n)
		_ = decomp.All(n, edges(n))
		if !same(n, before) {
			t.Errorf("%s is changed", short(before))
		}
	})
}

// drawn is a norm and runes that bytes tell, in a small world where much meets.
func drawn(b []byte) (n api.Norm, l []rune) {
	next := func() (v rune) {
		if len(b) > 0 {
			v, b = rune(b[0]), b[1:]
		}
		return v
	}
	wide := func(v rune) rune {
		switch {
		case v > 250:
			return 0x10ff + v - 250
		case v > 245:
			return 0xd7a1 + v - 245
		}
		return v
	}
	for range next() % 12 {
		from, size := wide(next()), next()
		to := make([]rune, 1+size%2+size/255)
		for i := range to {
			to[i] = wide(next())
		}
		n.Rows = append(n.Rows, api.Row{From: from, To: to})
	}
	if len(b)%2 == 0 {
		slices.SortFunc(n.Rows, func(a, b api.Row) int { return int(a.From - b.From) })
	}
	for range next() % 6 {
		lo := wide(next())
		n.Classes = append(n.Classes, api.Range{Lo: lo, Hi: lo + next()%4, Value: int(next())})
	}
	for range next() % 4 {
		n.Excluded = append(n.Excluded, wide(next()))
	}
	for range next() % 12 {
		l = append(l, wide(next()))
	}
	return n, l
}

// wantDrawn fails unless what bytes tell is answered as it should be.
func wantDrawn(t *testing.T, b []byte) {
	t.Helper()
	n, l := drawn(b)
	place, named := checked(n)
	wantFault(t, short(n), decomp.Check(n), place, named)
	if named != nil {
		_ = decomp.All(n, l)
		return
	}
	wantApart(t, n, l)
	wantStays(t, n, l[:len(l)/2], l[len(l)/2:])
}

func TestDrawn(t *testing.T) {
	chance := rand.New(rand.NewSource(444))
	rightOnes := 0
	for range 30000 {
		b := make([]byte, chance.Intn(60))
		for i := range b {
			b[i] = byte(chance.Intn(256))
			if chance.Intn(2) == 0 {
				b[i] %= 12
			}
		}
		wantDrawn(t, b)
		n, _ := drawn(b)
		if _, named := checked(n); named == nil && len(n.Rows) > 1 && len(n.Classes) > 0 {
			rightOnes++
		}
	}
	if rightOnes < 50 {
		t.Errorf("only %d norms were right", rightOnes)
	}
}

func FuzzDrawn(f *testing.F) {
	f.Add([]byte{})
	f.Add([]byte{3, 100, 1, 50, 200, 101, 0, 100, 102, 1, 101, 201, 1, 200, 2, 230, 1, 100, 4, 102, 200, 50, 101})
	f.Fuzz(wantDrawn)
}
