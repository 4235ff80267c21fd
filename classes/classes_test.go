package classes_test

import (
	"errors"
	"fmt"
	"math"
	"math/rand"
	"slices"
	"testing"

	"eponym/api"
	"eponym/classes"
	"eponym/ranges"
)

// wantFault fails unless the error is just a Fault of that named error at that place.
func wantFault(t *testing.T, what string, e error, place int, named error) {
	t.Helper()
	if named == nil {
		if e != nil {
			t.Errorf("%s: %v, want no error", what, e)
		}
		return
	}
	var f *api.Fault
	if !errors.As(e, &f) {
		t.Errorf("%s: %v is no Fault", what, e)
		return
	}
	if f.At != place || !errors.Is(e, named) {
		t.Errorf("%s: %q at %d, want %q at %d", what, f.Err, f.At, named, place)
	}
}

// anyOf is the greatest value of a table of which each value may be.
const anyOf = -1

// table is one of properties' tables: its name, its greatest value, and where it stands.
type table struct {
	name string
	most int
	of   func(p *api.Props) *[]api.Range
}

// all are all tables, in the order in which they are looked at.
func all() []table {
	return []table{
		{"Exceptions", 5, func(p *api.Props) *[]api.Range { return &p.Exceptions }},
		{"Unassigned", anyOf, func(p *api.Props) *[]api.Range { return &p.Unassigned }},
		{"Joiners", anyOf, func(p *api.Props) *[]api.Range { return &p.Joiners }},
		{"OldHangul", anyOf, func(p *api.Props) *[]api.Range { return &p.OldHangul }},
		{"Unstable", anyOf, func(p *api.Props) *[]api.Range { return &p.Unstable }},
		{"Ignorable", anyOf, func(p *api.Props) *[]api.Range { return &p.Ignorable }},
		{"Letters", anyOf, func(p *api.Props) *[]api.Range { return &p.Letters }},
		{"Joining", 4, func(p *api.Props) *[]api.Range { return &p.Joining }},
		{"Scripts", 5, func(p *api.Props) *[]api.Range { return &p.Scripts }},
		{"Directions", 11, func(p *api.Props) *[]api.Range { return &p.Directions }},
		{"Marks", anyOf, func(p *api.Props) *[]api.Range { return &p.Marks }},
	}
}

// one is a range of one rune.
func one(r rune, value int) api.Range { return api.Range{Lo: r, Hi: r, Value: value} }

// many are so many ranges, each with that value.
func many(n, value int) (l []api.Range) {
	for i := range rune(n) {
		l = append(l, one(0x1000+2*i, value))
	}
	return l
}

// props is some of what Unicode tells of runes.
func props() api.Props {
	return api.Props{
		Exceptions: []api.Range{
			one(0xb7, api.ContextO), one(0xdf, api.Pvalid), one(0x640, api.Disallowed), {Lo: 0x660, Hi: 0x669, Value: api.ContextO},
			one(0x2015, api.ContextJ), {Lo: 0x3031, Hi: 0x3035, Value: api.Disallowed}, {Lo: 0x3100, Hi: 0x3104, Value: api.Unassigned},
		},
		Unassigned: []api.Range{{Lo: 0x378, Hi: 0x379}, one(0x3100, 7), {Lo: 0xe0fff, Hi: 0x10ffff, Value: 3}},
		Joiners:    []api.Range{{Lo: 0x200c, Hi: 0x200d, Value: 1}},
		OldHangul:  []api.Range{{Lo: 0x1100, Hi: 0x11ff}, one(0xd7fb, 999999)},
		Unstable:   []api.Range{{Lo: 'A', Hi: 'Z'}, {Lo: 0xc0, Hi: 0xde}, one(0x200d, 0)},
		Ignorable:  []api.Range{one(0xad, 0), {Lo: 0x200b, Hi: 0x200f}},
		Letters:    []api.Range{{Lo: '0', Hi: '9'}, {Lo: 'A', Hi: 'Z'}, {Lo: 'a', Hi: 'z'}, {Lo: 0xc0, Hi: 0xff}, {Lo: 0x370, Hi: 0x3ff}, {Lo: 0x5d0, Hi: 0x669, Value: 9}, {Lo: 0x1100, Hi: 0x11ff}},
		Joining:    []api.Range{one(0x627, api.JoinR), one(0x628, api.JoinD), {Lo: 0x64b, Hi: 0x65f, Value: api.JoinT}, one(0xa872, api.JoinL)},
		Scripts: []api.Range{
			{Lo: 0x370, Hi: 0x373, Value: api.Greek}, {Lo: 0x5d0, Hi: 0x5ea, Value: api.Hebrew}, {Lo: 0x3041, Hi: 0x3096, Value: api.Hiragana},
			{Lo: 0x30a1, Hi: 0x30fa, Value: api.Katakana}, {Lo: 0x4e00, Hi: 0x9fff, Value: api.Han},
		},
		Directions: []api.Range{
			one('+', api.DirES), {Lo: '0', Hi: '9', Value: api.DirEN}, one(':', api.DirCS), one('[', api.DirON), one(0xad, api.DirBN), one(0xb5, api.DirL),
			{Lo: 0x300, Hi: 0x36f, Value: api.DirNSM}, {Lo: 0x5d0, Hi: 0x5ea, Value: api.DirR}, {Lo: 0x627, Hi: 0x64a, Value: api.DirAL},
			{Lo: 0x660, Hi: 0x669, Value: api.DirAN}, one(0x66a, api.DirET),
		},
		Marks: []api.Range{{Lo: 0x300, Hi: 0x36f}, {Lo: 0x64b, Hi: 0x65f, Value: 4}},
	}
}

// found is what a table says of a rune, range by range.
func found(l []api.Range, r rune) (int, bool) {
	for _, of := range l {
		if of.Lo <= r && r <= of.Hi {
			return of.Value, true
		}
	}
	return 0, false
}

// in tells whether a table has a rune, range by range.
func in(l []api.Range, r rune) bool {
	_, ok := found(l, r)
	return ok
}

// said is a rune's line and its class, from the table's last line to its first: each that holds says it anew.
func said(p api.Props, r rune) (line, class int) {
	line, class = 10, api.Disallowed
	if in(p.Letters, r) {
		line, class = 9, api.Pvalid
	}
	if in(p.Ignorable, r) {
		line, class = 8, api.Disallowed
	}
	if in(p.Unstable, r) {
		line, class = 7, api.Disallowed
	}
	if in(p.OldHangul, r) {
		line, class = 6, api.Disallowed
	}
	if in(p.Joiners, r) {
		line, class = 5, api.ContextJ
	}
	if slices.Contains([]rune("abcdefghijklmnopqrstuvwxyz0123456789-"), r) {
		line, class = 4, api.Pvalid
	}
	if in(p.Unassigned, r) {
		line, class = 3, api.Unassigned
	}
	if v, ok := found(p.Exceptions, r); ok {
		line, class = 2, v
	}
	if r < 0 || r >= 0xd800 && r < 0xe000 || r >= 0x110000 {
		line, class = 1, api.Disallowed
	}
	return line, class
}

// checked is what Check should tell, table by table.
func checked(p api.Props) (place int, named error) {
	for _, of := range all() {
		l := *of.of(&p)
		var f *api.Fault
		if errors.As(ranges.Check(l), &f) {
			return f.At, f.Err
		}
		for i, r := range l {
			if of.most != anyOf && (r.Value == 0 || r.Value >= of.most+1) {
				return i, api.ErrKind
			}
		}
	}
	return 0, nil
}

// eachOf hands on all lists of up to so many of what is told, the same list each time.
func eachOf[T any](telling []T, most int, do func([]T)) {
	var grow func(l []T)
	grow = func(l []T) {
		do(l)
		if len(l) == most {
			return
		}
		for _, x := range telling {
			grow(append(l, x))
		}
	}
	grow(make([]T, 0, most))
}

// edges are the runes at each range's ends and beside them, and those at the ends of what is right.
func edges(p api.Props) []rune {
	l := []rune{
		math.MinInt32, math.MinInt32 + 1, -0x110000, -2, -1, 0, 1, ' ', ',', '-', '.', '/', '0', '1', '8', '9', ':', '@', 'A', 'B', 'Y', 'Z', '[', '_', '`', 'a', 'b', 'y', 'z', '{',
		0x7f, 0x80, 0xd7ff, 0xd800, 0xdbff, 0xdc00, 0xdfff, 0xe000, 0xffff, 0x10000, 0x10fffe, 0x10ffff, 0x110000, 0x110001, math.MaxInt32 - 1, math.MaxInt32,
	}
	for _, of := range all() {
		for _, r := range *of.of(&p) {
			l = append(l, r.Lo-1, r.Lo, r.Lo+1, r.Hi-1, r.Hi, r.Hi+1)
		}
	}
	slices.Sort(l)
	return slices.Compact(l)
}

// wantSaid fails unless a rune's class and line are as the chapter's table says them.
func wantSaid(t *testing.T, p api.Props, r rune) {
	t.Helper()
	line, class := said(p, r)
	if got := classes.Why(p, r); got != line {
		t.Errorf("Why(%x): %d, want %d, of %x", r, got, line, p)
	}
	if got := classes.Of(p, r); got != class {
		t.Errorf("Of(%x): %d, want %d, of %x", r, got, class, p)
	}
}

// P7.1: no properties are right, and so are tables of all values that may be.
func TestCheckRight(t *testing.T) {
	wantFault(t, "none", classes.Check(api.Props{}), 0, nil)
	wantFault(t, "some", classes.Check(props()), 0, nil)
	var empty, full api.Props
	for _, of := range all() {
		*of.of(&empty) = []api.Range{}
		*of.of(&full) = many(api.MaxTable, 1)
	}
	wantFault(t, "empty", classes.Check(empty), 0, nil)
	wantFault(t, "full", classes.Check(full), 0, nil)
}

// P7.1: each table is one of layer 3, whichever of them it is, and whichever of its ranges is at fault.
func TestCheckEachTable(t *testing.T) {
	for _, of := range all() {
		for _, c := range []struct {
			what  string
			l     []api.Range
			place int
			named error
		}{
			{"too many", many(api.MaxTable+1, 1), 0, api.ErrFull},
			{"too many, and wrong ones", many(api.MaxTable+1, -1), 0, api.ErrFull},
			{"turned round", []api.Range{{Lo: 4, Hi: 3, Value: 1}}, 0, api.ErrRange},
			{"below 0", []api.Range{{Lo: -1, Hi: 3, Value: 1}}, 0, api.ErrRange},
			{"beyond all runes", []api.Range{one(1, 1), {Lo: 0x10ffff, Hi: 0x110000, Value: 1}}, 1, api.ErrRange},
			{"value below 0", []api.Range{one(1, 1), one(2, -1), one(3, 1)}, 1, api.ErrRange},
			{"value too great", []api.Range{one(1, 1), one(2, 1), one(3, 1000000)}, 2, api.ErrRange},
			{"twice", []api.Range{one(1, 1), one(1, 1)}, 1, api.ErrOrder},
			{"falling", []api.Range{one(1, 1), one(5, 1), one(4, 1)}, 2, api.ErrOrder},
			{"all runes", []api.Range{{Lo: 0, Hi: 0x10ffff, Value: 1}}, 0, nil},
		} {
			for _, p := range []api.Props{{}, props()} {
				*of.of(&p) = c.l
				wantFault(t, of.name+", "+c.what, classes.Check(p), c.place, c.named)
			}
		}
	}
}

// P7.1: values at their bounds and beside them, in the first range, in between, and in the last.
func TestCheckValues(t *testing.T) {
	values := []int{math.MinInt, -1000000, 999998, 999999, 1000000, math.MaxInt32, math.MaxInt}
	for v := -3; v <= 13; v++ {
		values = append(values, v)
	}
	for _, of := range all() {
		for _, v := range values {
			var named error
			switch {
			case v < 0 || v > 999999:
				named = api.ErrRange
			case of.most != anyOf && (v == 0 || v > of.most):
				named = api.ErrKind
			}
			for _, size := range []int{1, 2, 5, api.MaxTable} {
				for _, place := range []int{0, size / 2, size - 1} {
					p := props()
					*of.of(&p) = many(size, 1)
					(*of.of(&p))[place].Value = v
					wantFault(t, fmt.Sprintf("%s, %d at %d of %d", of.name, v, place, size), classes.Check(p), place, named)
				}
			}
		}
	}
}

// P7.1: of several ranges whose value may not be the first is told.
func TestCheckFirstValue(t *testing.T) {
	for _, of := range all() {
		if of.most == anyOf {
			continue
		}
		for first := range 5 {
			for second := first; second < 5; second++ {
				p := props()
				*of.of(&p) = many(5, of.most)
				(*of.of(&p))[first].Value = 0
				(*of.of(&p))[second].Value = of.most + 1
				wantFault(t, fmt.Sprintf("%s, %d and %d", of.name, first, second), classes.Check(p), first, api.ErrKind)
			}
		}
	}
}

// P7.1: what layer 3 says of a table is told ahead of a value that may not be, wherever the two stand.
func TestCheckTableAheadOfValues(t *testing.T) {
	for _, of := range all() {
		p := props()
		*of.of(&p) = []api.Range{one(1, 0), one(2, 12), one(9, 1), one(8, 1)}
		wantFault(t, of.name+", order", classes.Check(p), 3, api.ErrOrder)
		*of.of(&p) = []api.Range{one(1, 0), one(2, 12), {Lo: 9, Hi: 8, Value: 1}}
		wantFault(t, of.name+", range", classes.Check(p), 2, api.ErrRange)
		*of.of(&p) = append(many(5, 12), many(api.MaxTable, 1)...)
		wantFault(t, of.name+", full", classes.Check(p), 0, api.ErrFull)
	}
}

// P7.1: of two tables at fault the one ahead is told, whatever their faults are.
func TestCheckTwoTables(t *testing.T) {
	type fault struct {
		l     []api.Range
		place int
		named error
	}
	faults := func(of table) []fault {
		l := []fault{
			{[]api.Range{one(1, 1), one(2, 1), one(2, 1)}, 2, api.ErrOrder},
			{[]api.Range{one(1, 1), {Lo: 3, Hi: 2, Value: 1}}, 1, api.ErrRange},
			{many(api.MaxTable+1, 1), 0, api.ErrFull},
		}
		if of.most != anyOf {
			l = append(l, fault{[]api.Range{one(1, 1), one(2, 1), one(3, 1), one(4, of.most+1)}, 3, api.ErrKind})
		}
		return l
	}
	for i, first := range all() {
		for _, second := range all()[i+1:] {
			for _, a := range faults(first) {
				for _, b := range faults(second) {
					p := props()
					*first.of(&p), *second.of(&p) = a.l, b.l
					wantFault(t, first.name+" and "+second.name, classes.Check(p), a.place, a.named)
				}
			}
		}
	}
}

// P7.1: all short lists of telling ranges, in each of the tables.
func TestCheckShortLists(t *testing.T) {
	telling := []api.Range{
		one(0, 0), one(0, 1), one(5, 4), {Lo: 5, Hi: 7, Value: 5}, {Lo: 7, Hi: 9, Value: 6}, {Lo: 8, Hi: 9, Value: 11},
		one(0x10ffff, 12), one(0x110000, 1), {Lo: 9, Hi: 8, Value: 1}, one(-1, 1), one(20, -1), one(20, 1000000),
	}
	eachOf(telling, 3, func(l []api.Range) {
		for _, of := range all() {
			var p api.Props
			*of.of(&p) = l
			place, named := checked(p)
			wantFault(t, fmt.Sprintf("%s of %x", of.name, l), classes.Check(p), place, named)
		}
	})
}

// P7.2: of each line of the table a rune of which it is the first that holds.
func TestEachLine(t *testing.T) {
	p := props()
	for _, c := range []struct {
		r           rune
		line, class int
	}{
		{-1, 1, api.Disallowed}, {0xd800, 1, api.Disallowed}, {0xdfff, 1, api.Disallowed}, {0x110000, 1, api.Disallowed},
		{0xdf, 2, api.Pvalid}, {0x2015, 2, api.ContextJ}, {0xb7, 2, api.ContextO}, {0x640, 2, api.Disallowed}, {0x3101, 2, api.Unassigned}, {0x3100, 2, api.Unassigned},
		{0x378, 3, api.Unassigned}, {0x379, 3, api.Unassigned}, {0x10ffff, 3, api.Unassigned},
		{'a', 4, api.Pvalid}, {'z', 4, api.Pvalid}, {'0', 4, api.Pvalid}, {'9', 4, api.Pvalid}, {'-', 4, api.Pvalid},
		{0x200c, 5, api.ContextJ}, {0x200d, 5, api.ContextJ},
		{0x1100, 6, api.Disallowed}, {0xd7fb, 6, api.Disallowed},
		{'A', 7, api.Disallowed}, {0xc9, 7, api.Disallowed},
		{0xad, 8, api.Disallowed}, {0x200b, 8, api.Disallowed}, {0x200e, 8, api.Disallowed},
		{0xe9, 9, api.Pvalid}, {0x377, 9, api.Pvalid}, {0x37a, 9, api.Pvalid}, {0x65f, 9, api.Pvalid},
		{'!', 10, api.Disallowed}, {',', 10, api.Disallowed}, {'.', 10, api.Disallowed}, {'`', 10, api.Disallowed}, {'{', 10, api.Disallowed}, {'/', 10, api.Disallowed}, {':', 10, api.Disallowed}, {0x66a, 10, api.Disallowed}, {0xe000, 10, api.Disallowed},
	} {
		if line, class := classes.Why(p, c.r), classes.Of(p, c.r); line != c.line || class != c.class {
			t.Errorf("%x: line %d, class %d, want %d, %d", c.r, line, class, c.line, c.class)
		}
	}
}

// P7.2: the chapter's examples.
func TestExamples(t *testing.T) {
	p := api.Props{Letters: []api.Range{one(0xe9, 0)}, Unstable: []api.Range{one(0xc9, 0)}}
	for r, class := range map[rune]int{0xe9: api.Pvalid, 0xc9: api.Disallowed, 'a': api.Pvalid, 'A': api.Disallowed} {
		if got := classes.Of(p, r); got != class {
			t.Errorf("%x: %d, want %d", r, got, class)
		}
	}
}

// P7.2: whichever lines hold of a rune, the first of them says what it is.
func TestLinesThatHold(t *testing.T) {
	tables := all()[:7]
	lineOf := []int{2, 3, 5, 6, 7, 8, 9}
	classOf := []int{0, api.Unassigned, api.ContextJ, api.Disallowed, api.Disallowed, api.Disallowed, api.Pvalid}
	for _, r := range []rune{-1, 0xd800, 0xdfff, 0x110000, 'a', 'z', '0', '9', '-', 'A', 0, 0xe9, 0xd7ff, 0xe000, 0x10ffff} {
		for which := range 1 << len(tables) {
			for value := api.Pvalid; value <= api.Unassigned; value++ {
				var p api.Props
				line, class := 10, api.Disallowed
				if r < 0 || r == 0xd800 || r == 0xdfff || r == 0x110000 {
					line = 1
				} else if slices.Contains([]rune("az09-"), r) {
					line, class = 4, api.Pvalid
				}
				for i, of := range tables {
					if which>>i&1 == 0 {
						continue
					}
					*of.of(&p) = []api.Range{{Lo: 0, Hi: api.MaxRune, Value: value}}
					if lineOf[i] < line {
						line, class = lineOf[i], classOf[i]
						if i == 0 {
							class = value
						}
					}
				}
				if gotLine, got := classes.Why(p, r), classes.Of(p, r); gotLine != line || got != class {
					t.Errorf("%x, tables %b, value %d: line %d, class %d, want %d, %d", r, which, value, gotLine, got, line, class)
				}
			}
		}
	}
}

// P7.2: no table's value says anything but that of Exceptions, and tables that no line names say nothing.
func TestValuesOfOtherTables(t *testing.T) {
	for _, value := range []int{0, 1, 2, 3, 4, 5, 6, 999999} {
		for i, of := range all()[1:] {
			p := api.Props{}
			*of.of(&p) = []api.Range{one(0x3b1, value)}
			class := []int{api.Unassigned, api.ContextJ, api.Disallowed, api.Disallowed, api.Disallowed, api.Pvalid, api.Disallowed, api.Disallowed, api.Disallowed, api.Disallowed}[i]
			line := []int{3, 5, 6, 7, 8, 9, 10, 10, 10, 10}[i]
			if gotLine, got := classes.Why(p, 0x3b1), classes.Of(p, 0x3b1); gotLine != line || got != class {
				t.Errorf("%s with %d: line %d, class %d, want %d, %d", of.name, value, gotLine, got, line, class)
			}
			wantSaid(t, p, 0x3b0)
			wantSaid(t, p, 0x3b2)
		}
	}
}

// P7.2: without properties 37 runes are fit, and nothing else is anything.
func TestNoProperties(t *testing.T) {
	for _, p := range []api.Props{{}, {Exceptions: []api.Range{}, Letters: []api.Range{}}} {
		fit := 0
		for r := rune(-0x100); r <= api.MaxRune+0x100; r++ {
			class := classes.Of(p, r)
			if class == api.Pvalid {
				fit++
			} else if class != api.Disallowed {
				t.Fatalf("%x: %d", r, class)
			}
		}
		if fit != 37 {
			t.Errorf("%d are fit", fit)
		}
	}
}

// P7.2: each rune, and some that aren't right, even where all tables have their neighbours.
func TestEachRune(t *testing.T) {
	p := props()
	whole := api.Props{Exceptions: []api.Range{{Lo: 0xd700, Hi: 0xe0ff, Value: api.Pvalid}}, Unassigned: []api.Range{{Lo: 0, Hi: api.MaxRune}}}
	for r := rune(-0x1000); r <= api.MaxRune+0x1000; r++ {
		wantSaid(t, p, r)
		wantSaid(t, whole, r)
	}
	for _, r := range edges(p) {
		wantSaid(t, p, r)
		wantSaid(t, whole, r)
	}
}

// firstOf is the number of the first rune of a class, and how many have each, rune by rune.
func firstOf(p api.Props, l []rune, class int) (first int, counts [6]int) {
	first = -1
	for i := len(l) - 1; i >= 0; i-- {
		_, of := said(p, l[i])
		counts[of]++
		if of == class {
			first = i
		}
	}
	return first, counts
}

// wantFirst fails unless First and Count say what the runes' classes do.
func wantFirst(t *testing.T, p api.Props, l []rune) {
	t.Helper()
	for _, class := range []int{math.MinInt, -1, 0, 1, 2, 3, 4, 5, 6, math.MaxInt} {
		first, counts := firstOf(p, l, class)
		if got := classes.First(p, l, class); got != first {
			t.Errorf("First(%x, %d): %d, want %d", l, class, got, first)
		}
		if got := classes.Count(p, l); got != counts {
			t.Errorf("Count(%x): %d, want %d", l, got, counts)
		}
	}
}

// P7.3: no rune at all, and runes of which none, the first, one in between, the last, or several have the class.
func TestFirstNamedEdges(t *testing.T) {
	p := props()
	for _, c := range []struct {
		l     []rune
		class int
		want  int
	}{
		{nil, api.Pvalid, -1}, {[]rune{}, api.Disallowed, -1}, {nil, 0, -1},
		{[]rune{'a', 'b', 'c'}, api.Disallowed, -1}, {[]rune{'a', 'b', 'c'}, api.Pvalid, 0},
		{[]rune{'A', 'b', 'c'}, api.Disallowed, 0}, {[]rune{'a', 'B', 'c'}, api.Disallowed, 1}, {[]rune{'a', 'b', 'C'}, api.Disallowed, 2},
		{[]rune{'a', 'B', 'c', 'D'}, api.Disallowed, 1}, {[]rune{'a', 'a', -1, 0x110000}, api.Disallowed, 2},
		{[]rune{'a', 0x200c, 0xb7, 0x378}, api.ContextJ, 1}, {[]rune{'a', 0x200c, 0xb7, 0x378}, api.ContextO, 2}, {[]rune{'a', 0x200c, 0xb7, 0x378}, api.Unassigned, 3},
		{[]rune{'a', 'A', 0x200c, 0xb7, 0x378}, 0, -1}, {[]rune{'a', 'A', 0x200c, 0xb7, 0x378}, 6, -1}, {[]rune{'a', 'A', 0x200c, 0xb7, 0x378}, -1, -1},
		{[]rune{'a', 'A', 0x200c, 0xb7, 0x378}, math.MinInt, -1}, {[]rune{'a', 'A', 0x200c, 0xb7, 0x378}, math.MaxInt, -1},
	} {
		if got := classes.First(p, c.l, c.class); got != c.want {
			t.Errorf("First(%x, %d): %d, want %d", c.l, c.class, got, c.want)
		}
	}
}

// P7.3: no rune, runes of each class, and runes that stand more than once.
func TestCountNamedEdges(t *testing.T) {
	p := props()
	for _, c := range []struct {
		l    []rune
		want [6]int
	}{
		{nil, [6]int{}}, {[]rune{}, [6]int{}},
		{[]rune{'a'}, [6]int{1: 1}}, {[]rune{0x200c}, [6]int{2: 1}}, {[]rune{0xb7}, [6]int{3: 1}}, {[]rune{'A'}, [6]int{4: 1}}, {[]rune{0x378}, [6]int{5: 1}},
		{[]rune{'a', 0x200c, 0xb7, 'A', 0x378}, [6]int{0, 1, 1, 1, 1, 1}},
		{[]rune{'a', 'a', 'a', 0xb7, 0xb7, -1, 0x110000, 0xd800}, [6]int{0, 3, 0, 2, 3, 0}},
	} {
		if got := classes.Count(p, c.l); got != c.want {
			t.Errorf("Count(%x): %d, want %d", c.l, got, c.want)
		}
	}
	long := slices.Repeat([]rune{'a', 'A', 0x200d, 0x3101, 'b'}, 5000)
	if got := classes.Count(p, long); got != [6]int{0, 10000, 5000, 0, 5000, 5000} {
		t.Errorf("many: %d", got)
	}
}

// P7.3: all short lists of runes of all classes.
func TestShortLists(t *testing.T) {
	eachOf([]rune{'a', 0xe9, 0x200c, 0xb7, 'A', -1, 0x378, 0x3101}, 4, func(l []rune) { wantFirst(t, props(), l) })
}

// wantOthers fails unless the four tables that no line names say what they have.
func wantOthers(t *testing.T, p api.Props, r rune) {
	t.Helper()
	joins, _ := found(p.Joining, r)
	script, _ := found(p.Scripts, r)
	direction, ok := found(p.Directions, r)
	if !ok {
		direction = api.DirL
	}
	if got := classes.Joins(p, r); got != joins {
		t.Errorf("Joins(%x): %d, want %d", r, got, joins)
	}
	if got := classes.Script(p, r); got != script {
		t.Errorf("Script(%x): %d, want %d", r, got, script)
	}
	if got := classes.Direction(p, r); got != direction {
		t.Errorf("Direction(%x): %d, want %d", r, got, direction)
	}
	if got := classes.Mark(p, r); got != in(p.Marks, r) {
		t.Errorf("Mark(%x): %t", r, got)
	}
}

// P7.4: a rune in a range, at its ends, and just outside it.
func TestOthersNamedEdges(t *testing.T) {
	p := props()
	for _, c := range []struct {
		r                        rune
		joins, script, direction int
		mark                     bool
	}{
		{'a', 0, 0, api.DirL, false}, {0xb5, 0, 0, api.DirL, false}, {-1, 0, 0, api.DirL, false}, {0x110000, 0, 0, api.DirL, false},
		{'+', 0, 0, api.DirES, false}, {'/', 0, 0, api.DirL, false}, {'0', 0, 0, api.DirEN, false}, {'5', 0, 0, api.DirEN, false}, {'9', 0, 0, api.DirEN, false},
		{':', 0, 0, api.DirCS, false}, {'[', 0, 0, api.DirON, false}, {0xad, 0, 0, api.DirBN, false}, {0x66a, 0, 0, api.DirET, false},
		{0x2ff, 0, 0, api.DirL, false}, {0x300, 0, 0, api.DirNSM, true}, {0x36f, 0, 0, api.DirNSM, true}, {0x370, 0, api.Greek, api.DirL, false}, {0x373, 0, api.Greek, api.DirL, false}, {0x374, 0, 0, api.DirL, false},
		{0x5cf, 0, 0, api.DirL, false}, {0x5d0, 0, api.Hebrew, api.DirR, false}, {0x5ea, 0, api.Hebrew, api.DirR, false}, {0x5eb, 0, 0, api.DirL, false},
		{0x626, 0, 0, api.DirL, false}, {0x627, api.JoinR, 0, api.DirAL, false}, {0x628, api.JoinD, 0, api.DirAL, false}, {0x629, 0, 0, api.DirAL, false},
		{0x64a, 0, 0, api.DirAL, false}, {0x64b, api.JoinT, 0, api.DirL, true}, {0x65f, api.JoinT, 0, api.DirL, true}, {0x660, 0, 0, api.DirAN, false}, {0xa872, api.JoinL, 0, api.DirL, false},
		{0x3041, 0, api.Hiragana, api.DirL, false}, {0x3097, 0, 0, api.DirL, false}, {0x30fa, 0, api.Katakana, api.DirL, false}, {0x4e00, 0, api.Han, api.DirL, false}, {0x9fff, 0, api.Han, api.DirL, false}, {0xa000, 0, 0, api.DirL, false},
	} {
		if got := classes.Joins(p, c.r); got != c.joins {
			t.Errorf("Joins(%x): %d, want %d", c.r, got, c.joins)
		}
		if got := classes.Script(p, c.r); got != c.script {
			t.Errorf("Script(%x): %d, want %d", c.r, got, c.script)
		}
		if got := classes.Direction(p, c.r); got != c.direction {
			t.Errorf("Direction(%x): %d, want %d", c.r, got, c.direction)
		}
		if got := classes.Mark(p, c.r); got != c.mark {
			t.Errorf("Mark(%x): %t", c.r, got)
		}
	}
}

// P7.4: each rune; a table may have runes that aren't right, and says of them what it has.
func TestOthersOfEachRune(t *testing.T) {
	whole := api.Props{
		Joining: []api.Range{{Lo: 0, Hi: api.MaxRune, Value: api.JoinT}}, Scripts: []api.Range{{Lo: 0xd800, Hi: 0xdfff, Value: api.Han}},
		Directions: []api.Range{{Lo: 0xdfff, Hi: 0xe000, Value: api.DirBN}}, Marks: []api.Range{{Lo: 0, Hi: api.MaxRune}},
	}
	for _, p := range []api.Props{{}, props(), whole} {
		for r := rune(-0x100); r <= api.MaxRune+0x100; r++ {
			wantOthers(t, p, r)
		}
		for _, r := range edges(p) {
			wantOthers(t, p, r)
		}
	}
}

// ask calls all functions, and is what they answer.
func ask(p api.Props, r rune, l []rune, class int) string {
	return fmt.Sprint(classes.Check(p) == nil, classes.Of(p, r), classes.Why(p, r), classes.First(p, l, class), classes.Count(p, l),
		classes.Joins(p, r), classes.Script(p, r), classes.Direction(p, r), classes.Mark(p, r))
}

// P1: whatever the tables are, the calls end, and give the same answer again.
func TestAnyArgumentsEnd(t *testing.T) {
	telling := []api.Range{
		one(0, 0), {Lo: 9, Hi: -9, Value: -1}, {Lo: math.MinInt32, Hi: math.MaxInt32, Value: math.MinInt}, {Lo: 'a', Hi: 'b', Value: 6},
		one('a', math.MaxInt), {Lo: -5, Hi: 0x110000, Value: 7}, one(math.MaxInt32, 3),
	}
	runes := []rune{math.MinInt32, -1, 0, 'a', 0xe9, 0xd800, 0x10ffff, 0x110000, math.MaxInt32}
	eachOf(telling, 3, func(l []api.Range) {
		var p api.Props
		for _, of := range all() {
			*of.of(&p) = l
		}
		for _, r := range runes {
			for _, class := range []int{math.MinInt, -1, 0, 1, 7, math.MaxInt} {
				if a, b := ask(p, r, runes, class), ask(p, r, runes, class); a != b {
					t.Errorf("%x of %x: %s, then %s", r, p, a, b)
				}
			}
		}
	})
}

// clone is a copy of properties, with room behind each table in which there is what would be seen if it were read.
func clone(p api.Props, behind ...api.Range) (c api.Props) {
	for _, of := range all() {
		l := *of.of(&p)
		*of.of(&c) = append(slices.Clone(l), behind...)[:len(l)]
	}
	return c
}

// same tells whether properties are the same, what lies behind their tables too.
func same(a, b api.Props, behind int) bool {
	for _, of := range all() {
		l, m := *of.of(&a), *of.of(&b)
		if !slices.Equal(l[:len(l)+behind], m[:len(m)+behind]) {
			return false
		}
	}
	return true
}

// R4: nothing that is handed in is changed, and nothing behind a list's length is read.
func TestMemory(t *testing.T) {
	behind := []api.Range{{Lo: 0xf0000, Hi: 0xf0010, Value: 99}, {Lo: 9, Hi: 8, Value: -1}}
	runes := append([]rune{'a', 'b', 0x200c}, 'A', 0xb7, 0x378)[:3]
	for _, of := range []api.Props{{}, props()} {
		p, before := clone(of, behind...), clone(of, behind...)
		for _, r := range []rune{'a', 'A', 0xe9, 0xf0000, -1, 0x628} {
			for class := range 7 {
				if got, want := ask(p, r, runes, class), ask(of, r, []rune{'a', 'b', 0x200c}, class); got != want {
					t.Errorf("%x: %s, want %s", r, got, want)
				}
			}
		}
		if !same(p, before, len(behind)) {
			t.Errorf("changed to %x", p)
		}
	}
	if !slices.Equal(runes[:6], []rune{'a', 'b', 0x200c, 'A', 0xb7, 0x378}) {
		t.Errorf("changed to %x", runes[:6])
	}
}

// R4: two answers of Check are two errors: what is written into the one isn't seen in the other.
func TestErrorsAreNew(t *testing.T) {
	for _, p := range []api.Props{{Scripts: []api.Range{one(1, 1), one(2, 9)}}, {Marks: []api.Range{one(1, 1), one(1, 9)}}} {
		var a, b *api.Fault
		if !errors.As(classes.Check(p), &a) {
			t.Fatal("no error")
		}
		a.At = 77
		if !errors.As(classes.Check(p), &b) || b.At != 1 {
			t.Errorf("%x: %v", p, b)
		}
	}
}

// drawn are properties, right ones mostly, and runes of which many are in them.
func drawn(d *rand.Rand) (p api.Props, l []rune) {
	const about = 0x60
	bases := []rune{0, 'a' - 20, '0' - 20, 0xd7f0, 0xdff0, api.MaxRune - about}
	base := bases[d.Intn(len(bases))]
	for _, of := range all() {
		at := base
		for d.Intn(4) > 0 {
			lo := at + rune(d.Intn(12))
			hi := min(lo+rune(d.Intn(6)), api.MaxRune)
			value := d.Intn(8)
			if of.most != anyOf && d.Intn(40) > 0 {
				value = 1 + d.Intn(of.most)
			}
			*of.of(&p) = append(*of.of(&p), api.Range{Lo: lo, Hi: hi, Value: value})
			at = hi + 1
			if d.Intn(60) == 0 {
				at--
			}
		}
	}
	for range d.Intn(30) {
		l = append(l, base+rune(d.Intn(about))-5)
	}
	return p, l
}

// wantDrawn holds all functions against the chapter's words, and tells whether the properties were right.
func wantDrawn(t *testing.T, seed int64) bool {
	t.Helper()
	p, l := drawn(rand.New(rand.NewSource(seed)))
	place, named := checked(p)
	wantFault(t, fmt.Sprintf("seed %d", seed), classes.Check(p), place, named)
	if named != nil {
		ask(p, 'a', l, api.Pvalid)
		return false
	}
	for _, r := range l {
		wantSaid(t, p, r)
		wantOthers(t, p, r)
	}
	wantFirst(t, p, l)
	return true
}

func TestDrawn(t *testing.T) {
	right := 0
	for seed := range int64(10000) {
		if wantDrawn(t, seed) {
			right++
		}
	}
	if right < 2000 || right > 9500 {
		t.Errorf("%d of 10000 are right", right)
	}
}

func FuzzDrawn(f *testing.F) {
	for seed := range int64(20) {
		f.Add(seed)
	}
	f.Fuzz(func(t *testing.T, seed int64) { wantDrawn(t, seed) })
}
