package comp_test

import (
	"errors"
	"fmt"
	"math"
	"math/rand"
	"slices"
	"testing"

	"eponym/api"
	"eponym/comp"
	"eponym/decomp"
)

// wantFault fails unless the error is just a Fault of that named error at that place.
func wantFault(t *testing.T, what string, e error, place int, named error) {
	t.Helper()
	if named == nil {
		if e != nil {
			t.Errorf("%s: %v, want no error", what, e)
		}
		return
	}
	var f *api.Fault
	if !errors.As(e, &f) {
		t.Errorf("%s: %v is no Fault", what, e)
		return
	}
	if f.At != place || !errors.Is(e, named) {
		t.Errorf("%s: %q at %d, want %q at %d", what, f.Err, f.At, named, place)
	}
}

// short tells a norm, or how long it is.
func short(n api.Norm) string {
	if len(n.Rows) > 20 || len(n.Classes) > 20 || len(n.Excluded) > 20 {
		return fmt.Sprintf("%d rows, %d classes, %d excluded", len(n.Rows), len(n.Classes), len(n.Excluded))
	}
	return fmt.Sprintf("%x", n)
}

// row is a row of a norm.
func row(from rune, to ...rune) api.Row { return api.Row{From: from, To: to} }

// class is a range of one rune with a class.
func class(r rune, value int) api.Range { return api.Range{Lo: r, Hi: r, Value: value} }

// norm is some of what Unicode tells of letters and of marks.
func norm() api.Norm {
	return api.Norm{
		Rows: []api.Row{
			row(0xc5, 'A', 0x30a), row(0xe2, 'a', 0x302), row(0xe9, 'e', 0x301),
			row(0x340, 0x300), row(0x344, 0x308, 0x301), row(0x374, 0x2b9), row(0x958, 0x915, 0x93c), row(0x9cb, 0x9c7, 0x9be),
			row(0x1e61, 's', 0x307), row(0x1e63, 's', 0x323), row(0x1e69, 0x1e63, 0x307),
			row(0x1ea1, 'a', 0x323), row(0x1ead, 0x1ea1, 0x302), row(0x212b, 0xc5),
			row(0xfb2a, 0x5e9, 0x5c1), row(0x1109a, 0x11099, 0x110ba),
		},
		Classes: []api.Range{
			{Lo: 0x300, Hi: 0x302, Value: 230}, {Lo: 0x307, Hi: 0x308, Value: 230}, class(0x30a, 230),
			class(0x323, 220), class(0x327, 202), class(0x334, 1), {Lo: 0x340, Hi: 0x341, Value: 230}, class(0x344, 230),
			class(0x345, 240), class(0x5c1, 24), class(0x5c2, 25), class(0x93c, 7), class(0x110ba, 7),
		},
		Excluded: []rune{0x958, 0xfb2a},
	}
}

// kinds is a norm of small runes in which each kind of row, and each reason why one doesn't compose, is there.
func kinds() api.Norm {
	return api.Norm{
		Rows: []api.Row{
			row(0x100, 'a', 0x10), row(0x101, 'a', 0x20), row(0x102, 'a', 'b'), row(0x103, 'a', 0x30), // compose
			row(0x104, 0x100, 0x20), row(0x105, 0x104, 'b'), row(0x106, 0x102, 0x10), // compose with what is composed
			row(0x110, 'b', 0x10), row(0x111, 'b', 0x20), row(0x112, 0x10, 0x20), row(0x113, 'b'), row(0x114, 'b', 0x30), // excluded, of a class, first of a class, one rune, composes
			row(0x115, 0x110, 0x30), // composes, but never with what is taken apart
		},
		Classes:  []api.Range{class(0x10, 10), class(0x11, 10), class(0x20, 20), class(0x30, 30), class(0x111, 5)},
		Excluded: []rune{0x110},
	}
}

// ofHangul are all syllables' parts, put together part by part.
var ofHangul = func() map[rune][]rune {
	all := map[rune][]rune{}
	syllable := rune(0xac00)
	for l := rune(0x1100); l <= 0x1112; l++ {
		for v := rune(0x1161); v <= 0x1175; v++ {
			all[syllable] = []rune{l, v}
			syllable++
			for t := rune(0x11a8); t <= 0x11c2; t++ {
				all[syllable] = []rune{l, v, t}
				syllable++
			}
		}
	}
	return all
}()

// hangulPairs are all pairs of Hangul that compose, with what they compose to.
var hangulPairs = func() map[[2]rune]rune {
	bare := map[[2]rune]rune{}
	for syllable, parts := range ofHangul {
		if len(parts) == 2 {
			bare[[2]rune{parts[0], parts[1]}] = syllable
		}
	}
	pairs := map[[2]rune]rune{}
	for syllable, parts := range ofHangul {
		pair := [2]rune{parts[0], parts[1]}
		if len(parts) == 3 {
			pair = [2]rune{bare[pair], parts[2]}
		}
		pairs[pair] = syllable
	}
	return pairs
}()

// classOf is a rune's class, by another way than the program's.
func classOf(n api.Norm, r rune) int {
	for _, one := range n.Classes {
		if one.Lo <= r && r <= one.Hi {
			return one.Value
		}
	}
	return 0
}

// paired is what two runes compose to, by another way than the program's.
func paired(n api.Norm, a, b rune) (rune, bool) {
	for _, one := range n.Rows {
		composes := len(one.To) == 2 && !slices.Contains(n.Excluded, one.From) && classOf(n, one.From)+classOf(n, one.To[0]) == 0
		if composes && slices.Equal(one.To, []rune{a, b}) {
			return one.From, true
		}
	}
	syllable, ok := hangulPairs[[2]rune{a, b}]
	return syllable, ok
}

// together is what runes are put together to, by the chapter's words: each looks back for the last one of class 0.
func together(n api.Norm, l []rune) (out []rune) {
	for _, r := range l {
		last := len(out) - 1
		blocked := false
		for last >= 0 && classOf(n, out[last]) != 0 {
			blocked = blocked || classOf(n, out[last]) >= classOf(n, r)
			last--
		}
		if last >= 0 && !blocked {
			if both, ok := paired(n, out[last], r); ok {
				out[last] = both
				continue
			}
		}
		out = append(out, r)
	}
	return out
}

// eachOf hands over all lists of at most so many of what is handed in.
func eachOf[T any](telling []T, most int, do func([]T)) {
	var grow func([]T)
	grow = func(l []T) {
		do(slices.Clone(l))
		if len(l) == most {
			return
		}
		for _, one := range telling {
			grow(append(slices.Clone(l), one))
		}
	}
	grow(nil)
}

// chain is so many rows that lead to one another, each with a mark more.
func chain(n int) (rows []api.Row) {
	for i := range rune(n) {
		rows = append(rows, row(0x101+i, 0x100+i, 0x301))
	}
	return rows
}

// many are so many rows that don't lead to one another.
func many(n int) (rows []api.Row) {
	for i := range rune(n) {
		rows = append(rows, row(0x10000+i, 'a'+i%2, 0x20000+i))
	}
	return rows
}

// rightNorms are norms that are right, of all kinds.
func rightNorms(t *testing.T) []api.Norm {
	t.Helper()
	all := []api.Norm{
		{}, norm(), kinds(), {Rows: chain(8)}, {Rows: chain(8), Classes: []api.Range{class(0x301, 230)}}, {Rows: chain(8), Classes: []api.Range{class(0x104, 254), class(0x301, 1)}},
		{Rows: chain(8), Excluded: []rune{0x103}}, {Rows: many(2000), Classes: []api.Range{{Lo: 0x20000, Hi: 0x20400, Value: 9}}},
		{Rows: []api.Row{row(0x1113, 0x10ff, 0x1160), row(0x1176, 0x10ff, 0x11a7), row(0xd7a4, 0xabff, 0x11c3)}},
	}
	for _, n := range all {
		if e := decomp.Check(n); e != nil {
			t.Fatalf("%s: %v", short(n), e)
		}
	}
	return all
}

// edges are runes at, below and above those that a norm names, those of Hangul, and runes that none has.
func edges(n api.Norm) []rune {
	l := []rune{math.MinInt32, -1, 0, 'a', 'b', 0xd800, 0xdfff, 0x10ffff, 0x110000, math.MaxInt32}
	for _, r := range []rune{0xac00, 0xac1b, 0xac1c, 0xd788, 0xd7a3, 0x1100, 0x1112, 0x1161, 0x1175, 0x11a8, 0x11c2} {
		l = append(l, r-1, r, r+1)
	}
	for _, one := range n.Rows[:min(len(n.Rows), 40)] {
		l = append(append(l, one.From-1, one.From, one.From+1), one.To...)
	}
	for _, one := range n.Classes[:min(len(n.Classes), 40)] {
		l = append(l, one.Lo-1, one.Lo, one.Hi, one.Hi+1)
	}
	if len(n.Rows) > 40 {
		last := n.Rows[len(n.Rows)-1]
		l = append(append(l, last.From), last.To...)
	}
	slices.Sort(l)
	return slices.Compact(l)
}

// wantPair fails unless two runes compose to what they should.
func wantPair(t *testing.T, n api.Norm, a, b rune) {
	t.Helper()
	want, there := paired(n, a, b)
	if got, ok := comp.Pair(n, a, b); got != want || ok != there {
		t.Errorf("%s: %x and %x: %x, %v, want %x, %v", short(n), a, b, got, ok, want, there)
	}
}

func TestPairNamedEdges(t *testing.T) {
	for _, c := range []struct {
		n          api.Norm
		a, b, want rune
	}{
		{norm(), 'e', 0x301, 0xe9}, {norm(), 'A', 0x30a, 0xc5}, {norm(), 's', 0x323, 0x1e63}, {norm(), 0x1e63, 0x307, 0x1e69}, {norm(), 0x11099, 0x110ba, 0x1109a}, {norm(), 0x9c7, 0x9be, 0x9cb},
		{norm(), 'e', 0x302, 0}, {norm(), 'f', 0x301, 0}, {norm(), 0x301, 'e', 0}, {norm(), 'e', 'e', 0}, {norm(), 0xe9, 0x301, 0},
		{kinds(), 'a', 0x10, 0x100}, {kinds(), 'a', 'b', 0x102}, {kinds(), 0x104, 'b', 0x105}, {kinds(), 'b', 0x30, 0x114}, {kinds(), 0x110, 0x30, 0x115},
		{kinds(), 'b', 0x10, 0}, {kinds(), 'b', 0x20, 0}, {kinds(), 0x10, 0x20, 0}, {kinds(), 'b', 0, 0}, {kinds(), 0, 'b', 0}, {kinds(), 'b', 'b', 0},
		{norm(), 0x915, 0x93c, 0}, {norm(), 0x5e9, 0x5c1, 0}, {norm(), 0x308, 0x301, 0}, {norm(), 0xc5, 0, 0}, {norm(), 0x300, 0, 0},
		{norm(), 0x1100, 0x1161, 0xac00}, {norm(), 0x1100, 0x1162, 0xac1c}, {norm(), 0x1101, 0x1161, 0xae4c}, {norm(), 0x1112, 0x1175, 0xd788}, {norm(), 0xac00, 0x11a8, 0xac01}, {norm(), 0xac00, 0x11c2, 0xac1b}, {norm(), 0xd788, 0x11c2, 0xd7a3},
		{norm(), 0x10ff, 0x1161, 0}, {norm(), 0x1113, 0x1161, 0}, {norm(), 0x1100, 0x1160, 0}, {norm(), 0x1100, 0x1176, 0}, {norm(), 0xac00, 0x11a7, 0}, {norm(), 0xac00, 0x11c3, 0},
		{norm(), 0xac01, 0x11a8, 0}, {norm(), 0xac1b, 0x11a8, 0}, {norm(), 0xac1c, 0x11a8, 0xac1d}, {norm(), 0xd7a3, 0x11a8, 0}, {norm(), 0xd7a4, 0x11a8, 0}, {norm(), 0xabe4, 0x11a8, 0}, {norm(), 0x1100, 0x11a8, 0}, {norm(), 0x1161, 0x11a8, 0}, {norm(), 0xac00, 0x1161, 0}, {norm(), 0x1161, 0x1100, 0}, {norm(), 0x11a8, 0xac00, 0},
		{api.Norm{}, 0x1100, 0x1161, 0xac00}, {api.Norm{}, 'e', 0x301, 0},
		{norm(), math.MinInt32, math.MinInt32, 0}, {norm(), math.MinInt32, math.MaxInt32, 0}, {norm(), -1, 0x11a8, 0}, {norm(), 0x110000, 0x301, 0},
	} {
		if got, ok := comp.Pair(c.n, c.a, c.b); got != c.want || ok != (c.want != 0) {
			t.Errorf("%x and %x: %x, %v, want %x", c.a, c.b, got, ok, c.want)
		}
	}
	// The least rune that two may compose to.
	n := api.Norm{Rows: []api.Row{row(1, 0, 0)}}
	if got, ok := comp.Pair(n, 0, 0); got != 1 || !ok {
		t.Errorf("%x, %v", got, ok)
	}
}

func TestPairOfHangul(t *testing.T) {
	for pair, want := range hangulPairs {
		if got, ok := comp.Pair(norm(), pair[0], pair[1]); got != want || !ok {
			t.Errorf("%x: %x, %v, want %x", pair, got, ok, want)
		}
	}
	for a := rune(0x10f0); a <= 0x11d0; a++ {
		for b := rune(0x10f0); b <= 0x11d0; b++ {
			wantPair(t, norm(), a, b)
		}
	}
	for a := rune(0xabe0); a <= 0xd7d0; a++ {
		for _, b := range []rune{0x1100, 0x1160, 0x1161, 0x1175, 0x11a7, 0x11a8, 0x11b0, 0x11c2, 0x11c3, 0xac00} {
			wantPair(t, norm(), a, b)
		}
	}
}

func TestPairOfAllKinds(t *testing.T) {
	for _, n := range rightNorms(t) {
		some := edges(n)
		if len(n.Rows) > 40 {
			some = some[len(some)-12:]
		}
		for _, a := range some {
			for _, b := range some {
				wantPair(t, n, a, b)
			}
		}
	}
}

func TestPutNamedEdges(t *testing.T) {
	n := norm()
	for _, c := range []struct{ l, want []rune }{
		{nil, nil}, {[]rune{}, nil}, {[]rune{'a'}, []rune{'a'}}, {[]rune{0x301}, []rune{0x301}},
		// Right behind, of a class above 0 and of class 0.
		{[]rune{'e', 0x301}, []rune{0xe9}}, {[]rune{0x9c7, 0x9be}, []rune{0x9cb}}, {[]rune{'e', 'a'}, []rune{'e', 'a'}}, {[]rune{'e', 0x323}, []rune{'e', 0x323}},
		// With runes between: of classes below its own, the same, above it, and 0.
		{[]rune{'e', 0x323, 0x301}, []rune{0xe9, 0x323}}, {[]rune{'e', 0x334, 0x327, 0x323, 0x301}, []rune{0xe9, 0x334, 0x327, 0x323}},
		{[]rune{'e', 0x300, 0x301}, []rune{'e', 0x300, 0x301}}, {[]rune{'e', 0x345, 0x301}, []rune{'e', 0x345, 0x301}}, {[]rune{'e', 'b', 0x301}, []rune{'e', 'b', 0x301}},
		{[]rune{'e', 0x345, 0x323, 0x301}, []rune{'e', 0x345, 0x323, 0x301}}, {[]rune{'e', 0x323, 0x345, 0x301}, []rune{'e', 0x323, 0x345, 0x301}}, {[]rune{'e', 0x345, 'e', 0x301}, []rune{'e', 0x345, 0xe9}}, {[]rune{'e', 0x300, 0x323, 0x301}, []rune{'e', 0x300, 0x323, 0x301}},
		{[]rune{0x9c7, 0x334, 0x9be}, []rune{0x9c7, 0x334, 0x9be}}, {[]rune{0x1100, 0x302, 0x1161}, []rune{0x1100, 0x302, 0x1161}},
		// What is gone stands between no more.
		{[]rune{'a', 0x302, 0x323}, []rune{0xe2, 0x323}}, {[]rune{'s', 0x323, 0x307}, []rune{0x1e69}}, {[]rune{'s', 0x307, 0x323}, []rune{0x1e61, 0x323}}, {[]rune{0x1ea1, 0x302}, []rune{0x1ead}},
		{[]rune{'s', 0x327, 0x323, 0x307}, []rune{0x1e69, 0x327}}, {[]rune{'s', 0x300, 0x323, 0x307}, []rune{'s', 0x300, 0x323, 0x307}}, {[]rune{'s', 0x323, 0x300, 0x307}, []rune{0x1e63, 0x300, 0x307}},
		// Ahead of the first one of class 0.
		{[]rune{0x301, 'e'}, []rune{0x301, 'e'}}, {[]rune{0x301, 0x301}, []rune{0x301, 0x301}}, {[]rune{0x308, 0x301}, []rune{0x308, 0x301}}, {[]rune{0x301, 'e', 0x301, 0x301}, []rune{0x301, 0xe9, 0x301}},
		// As it stands: nothing is taken apart or put in order.
		{[]rune{0x212b, 0x340}, []rune{0x212b, 0x340}}, {[]rune{0x301, 0x323}, []rune{0x301, 0x323}}, {[]rune{0xe9, 'e', 0x301}, []rune{0xe9, 0xe9}}, {[]rune{0x958}, []rune{0x958}},
		{[]rune{0x1100, 0x1161, 0x11a8}, []rune{0xac01}}, {[]rune{0xac00, 0x11a8, 0x11a8}, []rune{0xac01, 0x11a8}}, {[]rune{0x1100, 0x1100, 0x1161}, []rune{0x1100, 0xac00}}, {[]rune{0x1100, 0x1161, 0x1161}, []rune{0xac00, 0x1161}},
		{[]rune{-1, 'e', 0x301, 0x110000}, []rune{-1, 0xe9, 0x110000}}, {[]rune{'e', -1, 0x301}, []rune{'e', -1, 0x301}},
	} {
		if got := comp.Put(n, c.l); !slices.Equal(got, c.want) {
			t.Errorf("%x: %x, want %x", c.l, got, c.want)
		}
	}
}

func TestAllNamedEdges(t *testing.T) {
	n := norm()
	for _, c := range []struct{ l, want []rune }{
		{nil, nil}, {[]rune{}, nil}, {[]rune{'e', 0x301}, []rune{0xe9}}, {[]rune{0xe9}, []rune{0xe9}}, {[]rune{0x1100, 0x1161, 0x11a8}, []rune{0xac01}}, {[]rune{0xac01}, []rune{0xac01}}, {[]rune{0xac00, 0x11a8}, []rune{0xac01}},
		{[]rune{'a', 0x302, 0x323}, []rune{0x1ead}}, {[]rune{0xe2, 0x323}, []rune{0x1ead}}, {[]rune{'a', 0x323, 0x302}, []rune{0x1ead}}, {[]rune{0x1e61, 0x323}, []rune{0x1e69}}, {[]rune{'s', 0x307, 0x345, 0x323}, []rune{0x1e69, 0x345}},
		{[]rune{0x212b}, []rune{0xc5}}, {[]rune{0x374}, []rune{0x2b9}}, {[]rune{0x340}, []rune{0x300}}, {[]rune{0x344}, []rune{0x308, 0x301}}, {[]rune{0x958}, []rune{0x915, 0x93c}}, {[]rune{0xfb2a}, []rune{0x5e9, 0x5c1}},
		{[]rune{0x301, 'a'}, []rune{0x301, 'a'}}, {[]rune{0x301, 0x323, 'a'}, []rune{0x323, 0x301, 'a'}}, {[]rune{'e', 0x301, 0x300}, []rune{0xe9, 0x300}}, {[]rune{'e', 0x300, 0x301}, []rune{'e', 0x300, 0x301}}, {[]rune{'e', 0x345, 0x301}, []rune{0xe9, 0x345}},
		{[]rune{-1, 0x110000}, []rune{-1, 0x110000}}, {[]rune{0xe9, 0x11a8}, []rune{0xe9, 0x11a8}},
	} {
		if got := comp.All(n, c.l); !slices.Equal(got, c.want) {
			t.Errorf("%x: %x, want %x", c.l, got, c.want)
		}
		if got := comp.Is(n, c.l); got != slices.Equal(c.l, c.want) {
			t.Errorf("%x is composed: %v", c.l, got)
		}
		if !comp.Is(n, c.want) {
			t.Errorf("%x isn't composed", c.want)
		}
		if !comp.Same(n, c.l, c.want) || !comp.Same(n, c.want, c.l) {
			t.Errorf("%x and %x aren't the same", c.l, c.want)
		}
	}
}

func TestSame(t *testing.T) {
	n := norm()
	for _, c := range []struct {
		a, b []rune
		want bool
	}{
		{nil, nil, true}, {nil, []rune{}, true}, {nil, []rune{'a'}, false}, {[]rune{'a'}, []rune{'a'}, true}, {[]rune{'a'}, []rune{'b'}, false}, {[]rune{'a'}, []rune{'a', 'a'}, false},
		{[]rune{0xe9}, []rune{'e', 0x301}, true}, {[]rune{0xe9}, []rune{'e', 0x300}, false}, {[]rune{0x212b}, []rune{0xc5}, true}, {[]rune{'A', 0x30a}, []rune{0x212b}, true}, {[]rune{'e', 0x301, 0x323}, []rune{'e', 0x323, 0x301}, true}, {[]rune{'e', 0x301, 0x300}, []rune{'e', 0x300, 0x301}, false},
		{[]rune{0x958}, []rune{0x915, 0x93c}, true}, {[]rune{0x344}, []rune{0x308, 0x301}, true}, {[]rune{0x340}, []rune{0x300}, true}, {[]rune{0x341}, []rune{0x301}, false},
		{[]rune{0xac01}, []rune{0x1100, 0x1161, 0x11a8}, true}, {[]rune{0xac01}, []rune{0xac00, 0x11a8}, true}, {[]rune{0xac01}, []rune{0xac00}, false}, {[]rune{-1}, []rune{-1}, true}, {[]rune{-1}, []rune{0x110000}, false},
	} {
		if got := comp.Same(n, c.a, c.b); got != c.want {
			t.Errorf("%x and %x: %v", c.a, c.b, got)
		}
		if got := comp.Same(n, c.b, c.a); got != c.want {
			t.Errorf("%x and %x: %v", c.b, c.a, got)
		}
	}
}

func TestText(t *testing.T) {
	for _, c := range []struct {
		s, want string
		place   int
		named   error
	}{
		{"", "", 0, nil}, {"abc", "abc", 0, nil}, {"e\u0301", "\u00e9", 0, nil}, {"ba\u0302\u0323c", "b\u1eadc", 0, nil}, {"\u212b\x00", "\u00c5\x00", 0, nil}, {"\u1100\u1161\u11a8", "\uac01", 0, nil}, {"\u0958", "\u0915\u093c", 0, nil}, {"\U00011099\U000110ba\U0010ffff", "\U0001109a\U0010ffff", 0, nil}, {"\u0344\u0323", "\u0323\u0308\u0301", 0, nil},
		{"\xff", "", 0, api.ErrByte}, {"e\u0301\x80", "", 3, api.ErrByte}, {"e\xcc", "", 1, api.ErrEnd}, {"e\u0301\xed\xa0\x80", "", 3, api.ErrByte}, {"ab\xf4\x90\x80\x80", "", 2, api.ErrByte}, {"\xc0\x80", "", 0, api.ErrByte}, {"e\u0301a\xe1\xba", "", 4, api.ErrEnd}, {"a\xffb\xcc", "", 1, api.ErrByte},
	} {
		got, e := comp.Text(norm(), c.s)
		wantFault(t, fmt.Sprintf("%q", c.s), e, c.place, c.named)
		if got != c.want {
			t.Errorf("%q: %q, want %q", c.s, got, c.want)
		}
	}
}

// wantTogether fails unless Put, All, Is and Text tell what they should.
func wantTogether(t *testing.T, n api.Norm, l []rune) {
	t.Helper()
	if got, want := comp.Put(n, l), together(n, l); !slices.Equal(got, want) {
		t.Errorf("%s: %x put together: %x, want %x", short(n), l, got, want)
	}
	want := together(n, decomp.All(n, l))
	if got := comp.All(n, l); !slices.Equal(got, want) {
		t.Errorf("%s: %x composed: %x, want %x", short(n), l, got, want)
	}
	if got := comp.Is(n, l); got != slices.Equal(l, want) {
		t.Errorf("%s: %x is composed: %v", short(n), l, got)
	}
	wrong := func(r rune) bool { return string(r) == "\ufffd" }
	if !slices.ContainsFunc(l, wrong) {
		if got, e := comp.Text(n, string(l)); got != string(want) || e != nil {
			t.Errorf("%s: %q, %v, want %q", short(n), got, e, string(want))
		}
	}
}

// wantStays fails unless what is composed stays so, is taken apart to the same as before, and isn't longer than that.
func wantStays(t *testing.T, n api.Norm, l []rune) {
	t.Helper()
	composed, apart := comp.All(n, l), decomp.All(n, l)
	if again := comp.All(n, composed); !slices.Equal(again, composed) || !comp.Is(n, composed) {
		t.Errorf("%s: %x, and then %x", short(n), composed, again)
	}
	if back := decomp.All(n, composed); !slices.Equal(back, apart) || !comp.Same(n, composed, l) {
		t.Errorf("%s: %x was %x, and then %x", short(n), l, apart, back)
	}
	if len(composed) > len(apart) {
		t.Errorf("%s: %x is longer than %x", short(n), composed, apart)
	}
}

// wantSame fails unless two lists are composed to the same just when they are taken apart to the same.
func wantSame(t *testing.T, n api.Norm, a, b []rune) {
	t.Helper()
	apart := slices.Equal(decomp.All(n, a), decomp.All(n, b))
	if composed := slices.Equal(comp.All(n, a), comp.All(n, b)); composed != apart || comp.Same(n, a, b) != apart {
		t.Errorf("%s: %x and %x: composed %v, apart %v, the same %v", short(n), a, b, composed, apart, comp.Same(n, a, b))
	}
}

func TestShortLists(t *testing.T) {
	for _, c := range []struct {
		n       api.Norm
		telling []rune
		most    int
	}{
		{kinds(), []rune{'a', 'b', 0x10, 0x11, 0x20, 0x30}, 6},
		{kinds(), []rune{'a', 0x10, 0x20, 0x100, 0x104, 0x110, 0x111, 0x112, 0x113, 0x115}, 4},
		{norm(), []rune{'s', 0x323, 0x307, 0x345, 0x344, 0x1e61, 0x1e69, 0x212b, 0x110000}, 4},
		{norm(), []rune{0x1100, 0x1161, 0x11a8, 0xac00, 0xac01, 0x302, 'e'}, 4},
		{api.Norm{Rows: chain(8), Classes: []api.Range{class(0x104, 254)}}, []rune{0x100, 0x103, 0x104, 0x105, 0x108, 0x301}, 5},
	} {
		eachOf(c.telling, c.most, func(l []rune) {
			wantTogether(t, c.n, l)
			wantStays(t, c.n, l)
		})
	}
}

func TestPairsOfLists(t *testing.T) {
	for _, c := range []struct {
		n       api.Norm
		telling []rune
	}{
		{kinds(), []rune{'a', 'b', 0x10, 0x20, 0x100, 0x104, 0x113}}, {norm(), []rune{'s', 0x323, 0x307, 0x1e61, 0x1e63, 0x1e69}}, {norm(), []rune{0x1100, 0x1161, 0x11a8, 0xac00, 0xac01}},
	} {
		var all [][]rune
		eachOf(c.telling, 3, func(l []rune) { all = append(all, l) })
		same := 0
		for i, a := range all {
			for _, b := range all[:i] {
				wantSame(t, c.n, a, b)
				if comp.Same(c.n, a, b) {
					same++
				}
			}
		}
		if same < 20 {
			t.Errorf("only %d pairs are the same", same)
		}
	}
}

func TestAllKinds(t *testing.T) {
	for _, n := range rightNorms(t) {
		some := edges(n)
		chance := rand.New(rand.NewSource(5))
		for range 300 {
			l := make([]rune, chance.Intn(12))
			for i := range l {
				l[i] = some[chance.Intn(len(some))]
			}
			wantTogether(t, n, l)
			wantStays(t, n, l)
			wantSame(t, n, l, decomp.All(n, l))
		}
	}
}

func TestSyllables(t *testing.T) {
	for syllable, parts := range ofHangul {
		if got := comp.All(norm(), parts); !slices.Equal(got, []rune{syllable}) {
			t.Errorf("%x: %x, want %x", parts, got, syllable)
		}
		if !comp.Is(norm(), []rune{syllable}) || comp.Is(norm(), parts) || !comp.Same(norm(), parts, []rune{syllable}) {
			t.Errorf("%x isn't %x", parts, syllable)
		}
	}
}

func TestLongLists(t *testing.T) {
	n := api.Norm{Rows: chain(8), Classes: []api.Range{class(0x301, 230), class(0x302, 220)}}
	all := []rune{0x100, 0x302, 0x301, 0x301, 0x301, 0x301, 0x301, 0x301, 0x301, 0x301, 0x301}
	if got := comp.All(n, all); !slices.Equal(got, []rune{0x108, 0x302, 0x301}) {
		t.Errorf("%x", got)
	}
	chance := rand.New(rand.NewSource(55))
	few := []rune{'s', 0x301, 0x323, 0x345, 0x307, 0x327, 'e'}
	l := make([]rune, 3000)
	for i := range l {
		l[i] = few[chance.Intn(len(few))]
	}
	wantTogether(t, norm(), l)
	wantStays(t, norm(), l)
	long := slices.Concat([]rune{'e'}, slices.Repeat([]rune{0x323}, 100000), []rune{0x301})
	if got := comp.All(norm(), long); len(got) != 100001 || got[0] != 0xe9 {
		t.Errorf("%d runes", len(got))
	}
}

// TestAnyNormEnds: whatever the norm, no call panics, and each ends.
func TestAnyNormEnds(t *testing.T) {
	l := []rune{math.MinInt32, -1, 0, 'a', 'b', 'c', 'a', 0x100, 0x101, 0x301, 0xac00, 0x11a8, 0x1100, 0x1161, 0x110000, math.MaxInt32}
	try := func(n api.Norm) {
		for _, a := range l {
			for _, b := range l[:6] {
				if r, ok := comp.Pair(n, a, b); r != 0 && !ok {
					t.Errorf("%s: %x beside false", short(n), r)
				}
			}
		}
		_, _, _, _ = comp.Put(n, l), comp.All(n, l), comp.Is(n, l), comp.Same(n, l, l[1:])
		for _, s := range []string{"", "abc", "a\u0301\uac00", "a\xff"} {
			if got, e := comp.Text(n, s); e != nil && got != "" {
				t.Errorf("%s: %q beside an error", short(n), got)
			}
		}
	}
	telling := []api.Row{row('a'), row('b', 'a'), row('b', 'a', 'c'), row('c', 'a', 'b', 'c'), row('a', 'b', 'b'), row('c', 'c', 'c'), row(-1, 'a', 'b'), row('b', -1), row('a', 'c', math.MinInt32), row(0xac00, 0x1100, 0x1161), row(0x110000, 'b', 'a')}
	classes := [][]api.Range{nil, {class('a', 230)}, {class('b', -1)}, {class('c', 1), class('a', math.MinInt)}, {{Lo: math.MaxInt32, Hi: math.MinInt32, Value: math.MinInt}, {Lo: math.MinInt32, Hi: math.MaxInt32, Value: math.MaxInt}}, {{Lo: 0, Hi: 0x110000, Value: 9}}}
	eachOf(telling, 2, func(rows []api.Row) {
		for _, classes := range classes {
			for _, excluded := range [][]rune{nil, {'b'}, {'c', 'a', -1}} {
				try(api.Norm{Rows: rows, Classes: classes, Excluded: excluded})
			}
		}
	})
	try(api.Norm{Rows: make([]api.Row, 3000), Classes: make([]api.Range, 3000), Excluded: make([]rune, 3000)})
	try(api.Norm{Rows: slices.Repeat([]api.Row{row('a', 'a', 'a')}, 3000)})
	try(api.Norm{Rows: chain(3000)})
}

// clone is a norm in memory of its own.
func clone(n api.Norm) api.Norm {
	rows := slices.Clone(n.Rows)
	for i := range rows {
		rows[i].To = slices.Clone(rows[i].To)
	}
	return api.Norm{Rows: rows, Classes: slices.Clone(n.Classes), Excluded: slices.Clone(n.Excluded)}
}

func same(a, b api.Norm) bool {
	rows := slices.EqualFunc(a.Rows, b.Rows, func(a, b api.Row) bool { return a.From == b.From && slices.Equal(a.To, b.To) })
	return rows && slices.Equal(a.Classes, b.Classes) && slices.Equal(a.Excluded, b.Excluded)
}

// TestMemory: answers are new, arguments aren't changed, and what lies behind a list isn't touched.
func TestMemory(t *testing.T) {
	full := norm()
	before := clone(full)
	n := api.Norm{Rows: full.Rows[:3], Classes: full.Classes[:4], Excluded: full.Excluded[:1]}
	room := []rune{'e', 0x323, 0x301, 0xe9, 'a', 0x302}
	was := slices.Clone(room)
	l := room[:3]
	for i, get := range []func() []rune{
		func() []rune { return comp.Put(n, l) }, func() []rune { return comp.All(n, l) }, func() []rune { return comp.Put(n, l[:1]) }, func() []rune { return comp.All(n, l[:1]) }, func() []rune { return comp.All(n, room[3:4]) },
	} {
		first := get()
		want := slices.Clone(first)
		for j := range first {
			first[j] = 0x7777
		}
		_ = append(first, 0x7777, 0x7777)
		if again := get(); !slices.Equal(again, want) {
			t.Errorf("%d: %x, want %x", i, again, want)
		}
		if !slices.Equal(room, was) || !same(full, before) {
			t.Fatalf("%d: it shares memory with what was handed in", i)
		}
	}
	_, _ = comp.Is(n, l), comp.Same(n, l, room[3:5])
	_, _ = comp.Pair(n, 'e', 0x301)
	_, _ = comp.Text(n, "e\u0301")
	if !slices.Equal(room, was) || !same(full, before) {
		t.Error("what was handed in is changed")
	}
	if _, ok := comp.Pair(n, 's', 0x323); ok {
		t.Error("what lies behind the rows is read")
	}
}

// drawn is a norm and runes that bytes tell, in a small world where much meets.
func drawn(b []byte) (n api.Norm, l []rune) {
	next := func() (v rune) {
		if len(b) > 0 {
			v, b = rune(b[0]), b[1:]
		}
		return v
	}
	for range next() % 8 {
		from, size := 100+next()%30, next()
		to := []rune{100 + next()%(from-99)}
		if size%4 > 0 {
			to = append(to, 90+next()%20)
		}
		n.Rows = append(n.Rows, api.Row{From: from, To: to})
	}
	slices.SortFunc(n.Rows, func(a, b api.Row) int { return int(a.From - b.From) })
	for range next() % 6 {
		n.Classes = append(n.Classes, class(90+next()%20, 1+int(next()%3)))
	}
	slices.SortFunc(n.Classes, func(a, b api.Range) int { return int(a.Lo - b.Lo) })
	for range next() % 3 {
		n.Excluded = append(n.Excluded, 100+next()%30)
	}
	for range next() % 12 {
		l = append(l, 90+next()%40)
	}
	return n, l
}

// wantDrawn fails unless what bytes tell is answered as it should be; it tells whether the norm is right.
func wantDrawn(t *testing.T, b []byte) bool {
	t.Helper()
	n, l := drawn(b)
	if decomp.Check(n) != nil {
		_, _, _ = comp.All(n, l), comp.Put(n, l), comp.Is(n, l)
		return false
	}
	for i := 1; i < len(l); i++ {
		wantPair(t, n, l[i-1], l[i])
	}
	wantTogether(t, n, l)
	wantStays(t, n, l)
	wantSame(t, n, l, comp.All(n, l))
	wantSame(t, n, l[:len(l)/2], l[len(l)/2:])
	return true
}

func TestDrawn(t *testing.T) {
	chance := rand.New(rand.NewSource(555))
	rightOnes := 0
	for range 60000 {
		b := make([]byte, chance.Intn(60))
		for i := range b {
			b[i] = byte(chance.Intn(256))
		}
		n, _ := drawn(b)
		if wantDrawn(t, b) && len(n.Rows) > 1 && len(n.Classes) > 0 {
			rightOnes++
		}
	}
	if rightOnes < 1000 {
		t.Errorf("only %d norms were right", rightOnes)
	}
}

func FuzzDrawn(f *testing.F) {
	f.Add([]byte{})
	f.Add([]byte{2, 20, 1, 3, 8, 21, 1, 20, 9, 2, 8, 1, 9, 2, 0, 4, 13, 8, 9, 9})
	f.Fuzz(func(t *testing.T, b []byte) { wantDrawn(t, b) })
}
