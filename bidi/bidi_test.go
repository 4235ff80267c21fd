package bidi_test

import (
	"errors"
	"fmt"
	"math"
	"math/rand"
	"regexp"
	"slices"
	"strings"
	"testing"

	"eponym/api"
	"eponym/bidi"
	"eponym/classes"
)

// wantFault fails unless the error is just a Fault of that named error at that place.
func wantFault(t *testing.T, what string, e error, place int, named error) {
	t.Helper()
	if named == nil {
		if e != nil {
			t.Errorf("%s: %v, want no error", what, e)
		}
		return
	}
	var f *api.Fault
	if !errors.As(e, &f) {
		t.Errorf("%s: %v is no Fault", what, e)
		return
	}
	if f.At != place || !errors.Is(e, named) {
		t.Errorf("%s: %q at %d, want %q at %d", what, f.Err, f.At, named, place)
	}
}

// one is a range of one rune.
func one(r rune, value int) api.Range { return api.Range{Lo: r, Hi: r, Value: value} }

// span is a range of runes.
func span(lo, hi rune, value int) api.Range { return api.Range{Lo: lo, Hi: hi, Value: value} }

// props are some of what Unicode tells of directions; of the letters a to y no table tells one.
func props() api.Props {
	return api.Props{Directions: []api.Range{
		one('!', api.DirON), one('#', api.DirET), one('$', api.DirET), one('+', api.DirES), one(',', api.DirCS), one('-', api.DirES),
		span('0', '9', api.DirEN), one(':', api.DirCS), one(';', api.DirON), one('z', api.DirL), one(0xad, api.DirBN), span(0x300, 0x36f, api.DirNSM),
		span(0x5d0, 0x5ea, api.DirR), span(0x627, 0x64a, api.DirAL), span(0x64b, 0x65f, api.DirNSM), span(0x660, 0x669, api.DirAN),
		span(0x6f0, 0x6f9, api.DirEN), span(0x200b, 0x200d, api.DirBN), one(0x200f, api.DirR), span(0x10e60, 0x10e7e, api.DirAN),
	}}
}

// The letters that stand for directions, each at its number; x is a rune of which no table tells one.
const (
	letters = ".lraenstcomb"
	noTable = 'x'
)

// rightSide, and leftSide, are the directions that rules 2, and 5, let a label have.
const (
	rightSide = "ranescotbm"
	leftSide  = "lescotbmx"
)

// runesOf are some runes of each direction, by its letter.
func runesOf(letter byte) []rune {
	switch letter {
	case 'l':
		return []rune{'z'}
	case 'r':
		return []rune{0x5d0, 0x5ea, 0x200f}
	case 'a':
		return []rune{0x627, 0x64a}
	case 'e':
		return []rune{'0', '9', 0x6f0, 0x6f9}
	case 'n':
		return []rune{0x660, 0x669, 0x10e60}
	case 's':
		return []rune{'-', '+'}
	case 't':
		return []rune{'#', '$'}
	case 'c':
		return []rune{':', ','}
	case 'o':
		return []rune{'!', ';'}
	case 'm':
		return []rune{0x300, 0x36f, 0x64b}
	case 'b':
		return []rune{0xad, 0x200b, 0x200d}
	}
	return []rune{'a', 'y', 0, 0x4e2d, api.MaxRune}
}

// row is a label by its letters; where a letter stands again, it is mostly another rune.
func row(text string) []rune {
	l := []rune{}
	for i := range len(text) {
		some := runesOf(text[i])
		l = append(l, some[i%len(some)])
	}
	return l
}

// rows are labels by their letters.
func rows(texts ...string) [][]rune {
	var name [][]rune
	for _, text := range texts {
		name = append(name, row(text))
	}
	return name
}

// lettersOf are the letters of a label, by a table that is gone through range by range.
func lettersOf(p api.Props, l []rune) string {
	var text strings.Builder
	for _, r := range l {
		letter := letters[api.DirL]
		for _, of := range p.Directions {
			if of.Lo <= r && r <= of.Hi {
				letter = letters[of.Value]
			}
		}
		text.WriteByte(letter)
	}
	return text.String()
}

// rules are the rules' breaches, of labels as letters; what stands in parentheses is the place.
var rules = []*regexp.Regexp{
	regexp.MustCompile(`^()$|^([^lra])`),
	regexp.MustCompile(`^[ra][^l]*(l)`),
	regexp.MustCompile(`^[ra].*([^raenm])m*$`),
	regexp.MustCompile(`^[ra][^en]*e[^n]*(n)|^[ra][^en]*n[^e]*(e)`),
	regexp.MustCompile(`^l[^ran]*([ran])`),
	regexp.MustCompile(`^l.*([^lem])m*$`),
}

// brokenOf is the least rule that is broken, and where, by those breaches.
func brokenOf(text string) (rule, at int) {
	text = strings.ReplaceAll(text, string(noTable), "l")
	for i, breach := range rules {
		places := breach.FindStringSubmatchIndex(text)
		for j := 2; j < len(places); j += 2 {
			if places[j] >= 0 {
				return i + 1, places[j]
			}
		}
	}
	return 0, 0
}

// wantLabel fails unless Right, Broken and Label say that of a label.
func wantLabel(t *testing.T, p api.Props, l []rune, right bool, rule, at int) {
	t.Helper()
	what := fmt.Sprintf("%x (%s)", l, lettersOf(p, l))
	if got := bidi.Right(p, l); got != right {
		t.Errorf("Right of %s: %t", what, got)
	}
	gotRule, gotAt := bidi.Broken(p, l)
	if gotRule != rule || gotAt != at {
		t.Errorf("Broken of %s: %d at %d, want %d at %d", what, gotRule, gotAt, rule, at)
	}
	var named error
	if rule > 0 {
		named = api.ErrBidi
	}
	wantFault(t, "Label of "+what, bidi.Label(p, l), at, named)
}

// wantText fails unless a label is said to be as told, by the tests' own words too.
func wantText(t *testing.T, text string, rule, at int) {
	t.Helper()
	if ownRule, ownAt := brokenOf(text); ownRule != rule || ownAt != at {
		t.Errorf("%s: by the tests' own words %d at %d, want %d at %d", text, ownRule, ownAt, rule, at)
	}
	wantLabel(t, props(), row(text), strings.ContainsAny(text, "ran"), rule, at)
}

// wantOwn fails unless a label is said to be as the tests' own words have it.
func wantOwn(t *testing.T, p api.Props, l []rune) {
	t.Helper()
	text := lettersOf(p, l)
	rule, at := brokenOf(text)
	wantLabel(t, p, l, strings.ContainsAny(text, "ran"), rule, at)
}

// wantName fails unless Mixed and Name say of a name what the chapter's words do.
func wantName(t *testing.T, p api.Props, name [][]rune) {
	t.Helper()
	mixed, first := false, -1
	for i := len(name) - 1; i >= 0; i-- {
		text := lettersOf(p, name[i])
		mixed = mixed || strings.ContainsAny(text, "ran")
		if rule, _ := brokenOf(text); rule > 0 {
			first = i
		}
	}
	if got := bidi.Mixed(p, name); got != mixed {
		t.Errorf("Mixed(%x): %t", name, got)
	}
	var named error
	if mixed && first >= 0 {
		named = api.ErrBidi
	}
	wantFault(t, fmt.Sprintf("Name(%x)", name), bidi.Name(p, name), first, named)
}

// eachOf hands on all rows of up to so many of what is told, the same list each time.
func eachOf[T any](telling []T, most int, do func([]T)) {
	var grow func(l []T)
	grow = func(l []T) {
		do(l)
		if len(l) == most {
			return
		}
		for _, x := range telling {
			grow(append(l, x))
		}
	}
	grow(make([]T, 0, most))
}

// The tests' own properties are right, and the runes of each letter have its direction.
func TestPropsAreRight(t *testing.T) {
	p := props()
	wantFault(t, "props", classes.Check(p), 0, nil)
	for i, letter := range []byte(letters + string(noTable)) {
		want := i
		if letter == noTable {
			want = api.DirL
		}
		for _, r := range runesOf(letter) {
			if got := classes.Direction(p, r); i > 0 && got != want {
				t.Errorf("%x: direction %d, want %d", r, got, want)
			}
		}
	}
}

// P9.1: the chapter's examples.
func TestExamples(t *testing.T) {
	p := props()
	wantLabel(t, p, []rune{0x5d0, 0x30}, true, 0, 0)
	wantLabel(t, p, []rune{0x30, 0x5d0}, true, 1, 0)
	wantLabel(t, p, []rune{0x5d0, 0x61}, true, 2, 1)
}

// P9.1: the empty label breaks rule 1, as a list that is nil and as one without elements.
func TestEmptyLabel(t *testing.T) {
	wantText(t, "", 1, 0)
	for _, p := range []api.Props{{}, props()} {
		wantLabel(t, p, nil, false, 1, 0)
		wantLabel(t, p, []rune{}, false, 1, 0)
	}
}

// P9.1: a label of one rune, of each direction.
func TestOneRune(t *testing.T) {
	for _, letter := range []string{"l", "r", "a", "x"} {
		wantText(t, letter, 0, 0)
	}
	for _, letter := range []string{"e", "n", "s", "t", "c", "o", "m", "b"} {
		wantText(t, letter, 1, 0)
	}
}

// P9.1: a first rune of each direction, with what would be in order behind it, or with breaches of the other rules.
func TestFirstRune(t *testing.T) {
	for _, behind := range []string{"l", "r", "a", "e", "n", "m", "ll", "rr", "le", "re", "rn", "lm", "rem", "en", "ne", "lr", "rl", "s", "sm"} {
		for _, letter := range []string{"e", "n", "s", "t", "c", "o", "m", "b"} {
			wantText(t, letter+behind, 1, 0)
		}
	}
	wantText(t, "le", 0, 0)
	wantText(t, "xe", 0, 0)
	wantText(t, "re", 0, 0)
	wantText(t, "ae", 0, 0)
	wantText(t, "rl", 2, 1)
	wantText(t, "al", 2, 1)
	wantText(t, "lr", 5, 1)
	wantText(t, "xa", 5, 1)
}

// P9.1: rule 2 with each direction behind a first rune that is R or AL.
func TestRule2(t *testing.T) {
	for _, first := range []string{"r", "a"} {
		for i := range rightSide {
			letter := rightSide[i : i+1]
			wantText(t, first+letter+"r", 0, 0)
			wantText(t, first+"a"+letter+letter+"e", cond(letter == "n", 4, 0), cond(letter == "n", 4, 0))
			wantText(t, first+letter+"l", 2, 2)
			wantText(t, first+letter+"lr", 2, 2)
		}
		for _, letter := range []string{"l", "x"} {
			wantText(t, first+letter, 2, 1)
			wantText(t, first+letter+"r", 2, 1)
			wantText(t, first+letter+"m", 2, 1)
			wantText(t, first+"re"+letter+"a", 2, 3)
			wantText(t, first+"re"+letter+letter+"a"+letter, 2, 3)
			wantText(t, first+letter+"e"+letter+"e"+letter, 2, 1)
			wantText(t, first+"oo"+letter+"l", 2, 3)
			wantText(t, first+"oo"+letter+"x", 2, 3)
		}
	}
}

// cond is the one or the other.
func cond(is bool, yes, no int) int {
	if is {
		return yes
	}
	return no
}

// P9.1: rule 5 with each direction behind a first rune that is L.
func TestRule5(t *testing.T) {
	for _, first := range []string{"l", "x"} {
		for i := range leftSide {
			letter := leftSide[i : i+1]
			wantText(t, first+letter+"l", 0, 0)
			wantText(t, first+"x"+letter+letter+"e", 0, 0)
			wantText(t, first+letter+"n", 5, 2)
			wantText(t, first+letter+"rl", 5, 2)
		}
		for _, letter := range []string{"r", "a", "n"} {
			wantText(t, first+letter, 5, 1)
			wantText(t, first+letter+"l", 5, 1)
			wantText(t, first+letter+"m", 5, 1)
			wantText(t, first+"le"+letter+"l", 5, 3)
			wantText(t, first+"le"+letter+letter+"l"+letter, 5, 3)
			wantText(t, first+letter+"e"+letter+"e"+letter, 5, 1)
			for _, other := range []string{"r", "a", "n"} {
				wantText(t, first+"oo"+letter+other, 5, 3)
			}
		}
	}
}

// P9.1: rules 3 and 6 with each direction last, with none, one and several NSM behind it.
func TestLastRune(t *testing.T) {
	for _, marks := range []string{"", "m", "mm", strings.Repeat("m", 50)} {
		for _, first := range []string{"r", "a"} {
			for _, letter := range []string{"r", "a", "e", "n"} {
				wantText(t, first+letter+marks, 0, 0)
				wantText(t, first+"so"+letter+marks, 0, 0)
				wantText(t, first+"m"+letter+marks, 0, 0)
			}
			for _, letter := range []string{"s", "t", "c", "o", "b"} {
				wantText(t, first+letter+marks, 3, 1)
				wantText(t, first+"re"+letter+marks, 3, 3)
				wantText(t, first+"mm"+letter+marks, 3, 3)
				wantText(t, first+letter+"m"+letter+marks, 3, 3)
				wantText(t, first+letter+letter+"r"+marks, 0, 0)
			}
		}
		for _, first := range []string{"l", "x"} {
			for _, letter := range []string{"l", "x", "e"} {
				wantText(t, first+letter+marks, 0, 0)
				wantText(t, first+"so"+letter+marks, 0, 0)
				wantText(t, first+"m"+letter+marks, 0, 0)
			}
			for _, letter := range []string{"s", "t", "c", "o", "b"} {
				wantText(t, first+letter+marks, 6, 1)
				wantText(t, first+"le"+letter+marks, 6, 3)
				wantText(t, first+"mm"+letter+marks, 6, 3)
				wantText(t, first+letter+"m"+letter+marks, 6, 3)
				wantText(t, first+letter+letter+"l"+marks, 0, 0)
			}
		}
	}
}

// P9.1: NSM alone behind the first rune.
func TestMarksAlone(t *testing.T) {
	for _, marks := range []string{"m", "mm", "mmm", strings.Repeat("m", 60)} {
		for _, first := range []string{"l", "x", "r", "a"} {
			wantText(t, first+marks, 0, 0)
		}
		for _, first := range []string{"e", "n", "s", "t", "c", "o", "b", "m"} {
			wantText(t, first+marks, 1, 0)
		}
	}
}

// P9.1: rule 4 with EN and AN in either order, several of them, and others between.
func TestRule4(t *testing.T) {
	for _, first := range []string{"r", "a"} {
		wantText(t, first+"e", 0, 0)
		wantText(t, first+"n", 0, 0)
		wantText(t, first+"eee", 0, 0)
		wantText(t, first+"nnn", 0, 0)
		wantText(t, first+"en", 4, 2)
		wantText(t, first+"ne", 4, 2)
		wantText(t, first+"een", 4, 3)
		wantText(t, first+"nne", 4, 3)
		wantText(t, first+"enn", 4, 2)
		wantText(t, first+"nee", 4, 2)
		wantText(t, first+"enen", 4, 2)
		wantText(t, first+"nene", 4, 2)
		wantText(t, first+"erman", 4, 5)
		wantText(t, first+"nrmae", 4, 5)
		wantText(t, first+"senser", 4, 3)
		wantText(t, first+"raetcobmasn", 4, 11)
		wantText(t, first+"enr", 4, 2)
		wantText(t, first+"nem", 4, 2)
	}
	for _, first := range []string{"l", "x"} {
		wantText(t, first+"en", 5, 2)
		wantText(t, first+"ne", 5, 1)
		wantText(t, first+"ee", 0, 0)
	}
	wantText(t, "en", 1, 0)
	wantText(t, "ne", 1, 0)
}

// P9.1: labels that break several rules, of which the least is told, with its own place.
func TestLeastOfSeveral(t *testing.T) {
	for _, c := range []struct {
		text     string
		rule, at int
	}{
		{"el", 1, 0}, {"enos", 1, 0}, {"mr", 1, 0}, {"slr", 1, 0},
		{"rol", 2, 2}, {"rls", 2, 1}, {"rsls", 2, 2}, {"aenl", 2, 3}, {"renlo", 2, 3}, {"anelm", 2, 3}, {"rlen", 2, 1}, {"renol", 2, 4},
		{"rens", 3, 3}, {"aneom", 3, 3}, {"rsent", 3, 4}, {"renbmm", 3, 3}, {"aencnec", 3, 6},
		{"lro", 5, 1}, {"leno", 5, 2}, {"lsa", 5, 2}, {"lonsm", 5, 2}, {"xsrs", 5, 2}, {"lrb", 5, 1}, {"lsn", 5, 2}, {"lsnm", 5, 2},
		{"lso", 6, 2}, {"lsom", 6, 2}, {"lsmommm", 6, 3},
	} {
		wantText(t, c.text, c.rule, c.at)
	}
}

// P9.1: R, AL or AN alone, at the first place, in the middle and at the last one; and labels that have none.
func TestRight(t *testing.T) {
	p := props()
	for _, text := range []string{"", "l", "x", "e", "s", "t", "c", "o", "m", "b", "lx", "lescotmbx", "eee", "mmm", "xlxlxl"} {
		if bidi.Right(p, row(text)) {
			t.Errorf("%s is of the right", text)
		}
		for _, letter := range []string{"r", "a", "n"} {
			for i := range len(text) + 1 {
				if l := row(text[:i] + letter + text[i:]); !bidi.Right(p, l) {
					t.Errorf("%x (%s at %d in %s) isn't of the right", l, letter, i, text)
				}
			}
		}
	}
	if bidi.Right(p, nil) || bidi.Right(api.Props{}, []rune{0x5d0, 0x627, 0x660}) {
		t.Error("of the right without reason")
	}
}

// P9.1: a rune of which no table tells a direction is L, whatever rune it is, and whatever other tables say of it.
func TestRunesInNoTable(t *testing.T) {
	strange := []rune{'a', 0, 0x4e2d, 0x5cf, 0x5eb, 0x626, 0x66a, 0xd800, 0xdfff, 0x10ffff, 0x110000, -1, math.MinInt32, math.MaxInt32}
	p := props()
	p.Marks, p.Letters = []api.Range{span(0, api.MaxRune, 0)}, []api.Range{span(0, api.MaxRune, api.DirR)}
	p.Scripts, p.Exceptions = []api.Range{span(0x5cf, 0x5eb, api.Hebrew)}, []api.Range{span('a', 'b', 2)}
	for _, r := range strange {
		for _, of := range []api.Props{props(), p} {
			wantLabel(t, of, []rune{r}, false, 0, 0)
			wantLabel(t, of, []rune{r, '0', 'z', r, 0x300}, false, 0, 0)
			wantLabel(t, of, []rune{r, 0x5d0, r}, true, 5, 1)
			wantLabel(t, of, []rune{0x5d0, '0', r}, true, 2, 2)
			wantLabel(t, of, []rune{'0', r}, false, 1, 0)
		}
		wantLabel(t, api.Props{}, []rune{r, '0', 0x5d0, 0x300, 0x660, '-'}, false, 0, 0)
	}
}

// P9.1: all short labels, of all directions.
func TestShortLabels(t *testing.T) {
	p := props()
	eachOf([]byte(letters[1:]), 5, func(text []byte) {
		l := row(string(text))
		rule, at := brokenOf(string(text))
		wantLabel(t, p, l, strings.ContainsAny(string(text), "ran"), rule, at)
	})
	eachOf([]byte("lraenmo"), 6, func(text []byte) { wantOwn(t, p, row(string(text))) })
}

// P9.1: each rune, as the first one, in between and as the last one.
func TestEachRune(t *testing.T) {
	p := props()
	l, inside := []rune{0, '0', 0x300}, []rune{0x5d0, 0, 0x300}
	for r := rune(-0x10); r <= api.MaxRune+0x10; r++ {
		text := lettersOf(p, []rune{r})
		rule, _ := brokenOf(text + "em")
		l[0], inside[1] = r, r
		if got, at := bidi.Broken(p, l); got != rule || at != 0 {
			t.Errorf("%x: %d at %d", l, got, at)
		}
		rule, place := brokenOf("r" + text + "m")
		if got, at := bidi.Broken(p, inside); got != rule || at != place {
			t.Errorf("%x: %d at %d", inside, got, at)
		}
	}
}

// P9.2: names of no label, and of empty ones.
func TestNamesOfNothing(t *testing.T) {
	for _, p := range []api.Props{{}, props()} {
		for _, name := range [][][]rune{nil, {}, {nil}, {{}}, {nil, {}}, {{}, {}, {}}} {
			if bidi.Mixed(p, name) {
				t.Errorf("%x is mixed", name)
			}
			wantFault(t, fmt.Sprintf("%x", name), bidi.Name(p, name), 0, nil)
		}
	}
}

// P9.2: names in which no label, one, several, and the last one alone is of the right.
func TestMixed(t *testing.T) {
	p := props()
	for _, c := range []struct {
		name [][]rune
		want bool
	}{
		{rows("l"), false}, {rows("l", "e", "x"), false}, {rows("lescotmb", "mmm", "", "s"), false},
		{rows("r"), true}, {rows("a"), true}, {rows("n"), true}, {rows("ln"), true},
		{rows("r", "l", "l"), true}, {rows("l", "lla", "l"), true}, {rows("l", "e", "len"), true}, {rows("", "", "r"), true}, {rows("r", "", ""), true},
		{rows("r", "a", "n"), true}, {rows("l", "r", "l", "a"), true},
	} {
		if got := bidi.Mixed(p, c.name); got != c.want {
			t.Errorf("Mixed(%x): %t", c.name, got)
		}
		if bidi.Mixed(api.Props{}, c.name) {
			t.Errorf("Mixed(%x) by no table", c.name)
		}
		wantName(t, p, c.name)
	}
}

// P9.2: names that aren't mixed, mixed ones of which no label breaks a rule, and those of which one does, or several do.
func TestName(t *testing.T) {
	p := props()
	const none = -1
	for _, c := range []struct {
		name [][]rune
		at   int
	}{
		{rows("e"), none}, {rows("s", "l", "ls"), none}, {rows("", "l"), none}, {rows("l", "e", "m", "lo"), none}, {rows("", "", ""), none},
		{rows("r"), none}, {rows("l", "r"), none}, {rows("an", "ae", "r", "le", "lm", "rm"), none}, {rows("lsl", "reem", "rosa"), none},
		{rows("e", "r"), 0}, {rows("s", "r", "l"), 0}, {rows("", "r"), 0}, {rows("rl"), 0}, {rows("n"), 0}, {rows("ren", "l"), 0}, {rows("lr", "l"), 0},
		{rows("r", "e", "l"), 1}, {rows("l", "r", "", "l"), 2}, {rows("l", "ls", "a"), 1}, {rows("l", "lr", "a"), 1}, {rows("l", "x", "nl", "l"), 2},
		{rows("r", "l", "e"), 2}, {rows("r", "l", ""), 2}, {rows("l", "l", "l", "rsl"), 3}, {rows("l", "n"), 1}, {rows("a", "ls"), 1}, {rows("l", "rot"), 1},
		{rows("r", "e", "l", "e", ""), 1}, {rows("", "", "r"), 0}, {rows("r", "lo", "aen", "e"), 1}, {rows("l", "r", "l", "s", "n"), 3}, {rows("e", "n", "m"), 0},
	} {
		var named error
		if c.at != none {
			named = api.ErrBidi
		}
		wantFault(t, fmt.Sprintf("Name(%x)", c.name), bidi.Name(p, c.name), c.at, named)
		wantFault(t, fmt.Sprintf("Name(%x) by no table", c.name), bidi.Name(api.Props{}, c.name), 0, nil)
		wantName(t, p, c.name)
	}
}

// P9.2: all short names of labels of all kinds: those that break each of the rules, and those that break none, of both sides and of none.
func TestShortNames(t *testing.T) {
	p := props()
	labels := rows("", "e", "s", "rl", "rs", "ren", "lr", "lo", "l", "le", "r", "an", "n")
	eachOf(labels, 4, func(name [][]rune) { wantName(t, p, name) })
}

// P9.3: a label that breaks no rule ends, but for NSM, as it begins (L, or else R or AL), or with a number, which of the left is EN.
func TestEndOfUnbroken(t *testing.T) {
	p := props()
	ends := map[string]int{}
	eachOf([]byte(letters[1:]), 5, func(text []byte) {
		if rule, _ := bidi.Broken(p, row(string(text))); rule > 0 {
			return
		}
		begins, last := string(text[:1]), strings.TrimRight(string(text), "m")
		last = last[len(last)-1:]
		if begins == "a" {
			begins = "r"
		}
		ends[begins+last]++
	})
	if len(ends) != 6 {
		t.Errorf("%d ways to end: %v", len(ends), ends)
	}
	for _, way := range []string{"ll", "le", "rr", "ra", "re", "rn"} {
		if ends[way] == 0 {
			t.Errorf("no label goes %s", way)
		}
	}
}

// P9.3: NSM put behind labels that break no rule.
func TestMarksBehindUnbroken(t *testing.T) {
	p := props()
	for _, text := range []string{"l", "x", "le", "lse", "lm", "lmemm", "lescotmbl", "r", "a", "re", "rn", "an", "ra", "rm", "anmm", "rosbetca"} {
		for _, marks := range [][]rune{{0x300}, {0x36f}, {0x64b}, {0x300, 0x65f}, slices.Repeat([]rune{0x300, 0x64b, 0x36f}, 30)} {
			wantLabel(t, p, slices.Concat(row(text), marks), strings.ContainsAny(text, "ran"), 0, 0)
		}
	}
	many := 0
	eachOf([]byte(letters[1:]), 4, func(text []byte) {
		rule, place := bidi.Broken(p, row(string(text)))
		for _, marks := range []string{"m", "mm", "mmmmm"} {
			longer := row(string(text) + marks)
			got, at := bidi.Broken(p, longer)
			if rule == 0 && (got != 0 || bidi.Label(p, longer) != nil) {
				t.Errorf("%s with %s behind: %d at %d", text, marks, got, at)
			}
			// What breaks a rule goes on to break it, at that place.
			if got != rule || at != place {
				t.Errorf("%s with %s behind: %d at %d, want %d at %d", text, marks, got, at, rule, place)
			}
		}
		if rule == 0 {
			many++
		}
	})
	if many < 1000 {
		t.Errorf("%d labels break no rule", many)
	}
}

// P9.3: each NSM that the table tells, put behind a label of each side.
func TestEachMarkBehind(t *testing.T) {
	p := props()
	for _, of := range p.Directions {
		for r := of.Lo; r <= of.Hi && of.Value == api.DirNSM; r++ {
			wantLabel(t, p, []rune{'a', r}, false, 0, 0)
			wantLabel(t, p, []rune{'a', '0', r, r}, false, 0, 0)
			wantLabel(t, p, []rune{0x5d0, r}, true, 0, 0)
			wantLabel(t, p, []rune{0x627, 0x660, r, r, r}, true, 0, 0)
		}
	}
}

// ask calls all functions, and is what they answer.
func ask(p api.Props, name [][]rune) string {
	answers := []any{bidi.Mixed(p, name), told(bidi.Name(p, name))}
	for _, l := range name {
		rule, at := bidi.Broken(p, l)
		answers = append(answers, bidi.Right(p, l), rule, at, told(bidi.Label(p, l)))
	}
	return fmt.Sprint(answers...)
}

// told is an error's place and its named error.
func told(e error) string {
	var f *api.Fault
	if !errors.As(e, &f) {
		return fmt.Sprint(e)
	}
	return fmt.Sprint(f.At, f.Err)
}

// P1: whatever the properties and the labels are, the calls end, and give the same answer again.
func TestAnyArgumentsEnd(t *testing.T) {
	telling := []api.Range{
		one(0, 0), span(9, -9, -1), span(math.MinInt32, math.MaxInt32, math.MinInt), one('a', math.MaxInt), one('a', 12), one('b', 64), one('c', -64),
		span(-5, 0x110000, 16), one(math.MaxInt32, 2), one(0x5d0, 2), span('a', 'c', 10), span(0, 0x10ffff, 10),
	}
	labels := [][]rune{
		nil, {}, {math.MinInt32}, {-1, 0}, {'a'}, {'a', 'b', 'c'}, {'b', 'a'}, {'c', 'c', 'c'}, {0x5d0, 'a', 'b'}, {0x5d0, 'c', 'c'}, {'d', 'a', 'a', 'b'},
		{0xd800, 0x10ffff, 0x110000}, {math.MaxInt32, 0x5d0, -1, 'a'}, {math.MaxInt32, 'a', 'a'},
	}
	eachOf(telling, 3, func(ranges []api.Range) {
		p := api.Props{
			Exceptions: ranges, Unassigned: ranges, Joiners: ranges, OldHangul: ranges, Unstable: ranges, Ignorable: ranges,
			Letters: ranges, Joining: ranges, Scripts: ranges, Directions: ranges, Marks: ranges,
		}
		for i := range labels {
			if a, b := ask(p, labels[i:]), ask(p, labels[i:]); a != b {
				t.Errorf("%x of %x: %s, then %s", labels[i:], ranges, a, b)
			}
		}
	})
}

// P1 and R1: directions that there are not, of all sizes, in each place.
func TestStrangeDirections(t *testing.T) {
	for _, value := range []int{math.MinInt, math.MinInt + 1, math.MinInt32, -64, -63, -2, -1, 0, 12, 13, 15, 16, 17, 31, 32, 63, 64, 65, 1 << 32, 1<<32 + 2, math.MaxInt - 1, math.MaxInt} {
		p := api.Props{Directions: []api.Range{one('a', value), one('m', api.DirNSM), one(0x5d0, api.DirR)}}
		if classes.Check(p) == nil {
			t.Errorf("there is a direction %d", value)
		}
		for _, l := range [][]rune{{'a'}, {'a', 'm'}, {'b', 'a', 'm'}, {0x5d0, 'a'}, {0x5d0, 'a', 'm', 'm'}, {'b', 'a', 'b'}, {'a', 'a', 'a'}} {
			name := [][]rune{l, l, nil}
			if a, b := ask(p, name), ask(p, name); a != b {
				t.Errorf("%d: %s, then %s", value, a, b)
			}
		}
	}
}

// P1: long labels and names.
func TestLong(t *testing.T) {
	p := props()
	const many = 200000
	wantLabel(t, p, append([]rune{0x5d0}, slices.Repeat([]rune{0x300}, many)...), true, 0, 0)
	wantLabel(t, p, append([]rune{'a', '-'}, slices.Repeat([]rune{0x300}, many)...), false, 6, 1)
	wantLabel(t, p, append(slices.Repeat([]rune{'a'}, many), 0x5d0), true, 5, many)
	wantLabel(t, p, append(slices.Repeat([]rune{0x5d0}, many), 'a'), true, 2, many)
	wantLabel(t, p, slices.Concat([]rune{0x5d0}, slices.Repeat([]rune{'0'}, many), []rune{0x660}), true, 4, many+1)
	wantLabel(t, p, slices.Repeat([]rune{0x300}, many), false, 1, 0)
	name := slices.Repeat([][]rune{{'a'}}, many)
	name = append(name, []rune{'0'}, []rune{0x5d0})
	wantFault(t, "a long name", bidi.Name(p, name), many, api.ErrBidi)
	wantFault(t, "a long name that isn't mixed", bidi.Name(p, name[:many+1]), 0, nil)
}

// withRoom is a copy of a list, with room behind it in which there is what would be seen if it were read.
func withRoom[T any](l []T, behind ...T) []T {
	return append(slices.Clone(l), behind...)[:len(l)]
}

// R4: nothing that is handed in is changed, and nothing behind a list's length is read.
func TestMemory(t *testing.T) {
	behindTable := []api.Range{one(0x200000, 2), span(9, 8, -1)}
	for _, texts := range [][]string{{"l"}, {"", "l"}, {"rm", "e"}, {"re", "le", "lo"}, {"ls", "rn"}, {"", "", "e"}} {
		p := props()
		p.Directions = withRoom(p.Directions, behindTable...)
		want := ask(props(), rows(texts...))
		for _, behind := range []string{"l", "r", "n", "s", "m", "e"} {
			var labels [][]rune
			for _, text := range texts {
				labels = append(labels, withRoom(row(text), row(behind)...))
			}
			name := withRoom(labels, row(behind), row("rl"))
			if got := ask(p, name); got != want {
				t.Errorf("%s: %s, want %s", texts, got, want)
			}
			for i, l := range name {
				if whole := l[:len(l)+1]; !slices.Equal(whole, slices.Concat(row(texts[i]), row(behind))) {
					t.Errorf("%s: changed to %x", texts, whole)
				}
			}
			if rest := name[len(name) : len(name)+2]; !slices.Equal(rest[0], row(behind)) || !slices.Equal(rest[1], row("rl")) {
				t.Errorf("%s: changed to %x", texts, rest)
			}
		}
		if whole := p.Directions[:len(p.Directions)+2]; !slices.Equal(whole, slices.Concat(props().Directions, behindTable)) {
			t.Errorf("changed to %x", whole)
		}
	}
}

// R4: two answers are two errors: what is written into the one isn't seen in the other.
func TestErrorsAreNew(t *testing.T) {
	p := props()
	for _, again := range []func() error{
		func() error { return bidi.Label(p, row("rl")) },
		func() error { return bidi.Name(p, rows("r", "e")) },
	} {
		var a, b *api.Fault
		if !errors.As(again(), &a) {
			t.Fatal("no error")
		}
		a.At, a.Err = 77, api.ErrByte
		if e := again(); !errors.As(e, &b) || b.At != 1 || !errors.Is(e, api.ErrBidi) {
			t.Errorf("%v", b)
		}
	}
}

// drawn are right properties, and a name of runes of which many are in them.
func drawn(d *rand.Rand) (p api.Props, name [][]rune) {
	const about = 40
	base := []rune{0, 'a', 0x5d0, 0xd7f0, api.MaxRune - about}[d.Intn(5)]
	for at := base; at+8 < base+about; {
		lo := at + rune(d.Intn(3))
		hi := lo + rune(d.Intn(4))
		p.Directions = append(p.Directions, span(lo, hi, 1+d.Intn(api.DirBN)))
		at = hi + 1
	}
	for range d.Intn(6) {
		var l []rune
		for range d.Intn(8) {
			l = append(l, base+rune(d.Intn(about+4))-2)
		}
		name = append(name, l)
	}
	return p, name
}

// drawnText is a label by its letters, as labels of one side are, mostly.
func drawnText(d *rand.Rand) string {
	side := []string{"lescotbmlll", "ralerramnsescotbm", letters[1:]}[d.Intn(3)]
	text := []byte{"lra"[d.Intn(3)]}
	for range d.Intn(40) {
		text = append(text, side[d.Intn(len(side))])
	}
	return string(text)
}

// wantDrawn holds all functions against the chapter's words.
func wantDrawn(t *testing.T, seed int64) {
	t.Helper()
	d := rand.New(rand.NewSource(seed))
	p, name := drawn(d)
	wantFault(t, fmt.Sprintf("seed %d", seed), classes.Check(p), 0, nil)
	wantName(t, p, name)
	for _, l := range name {
		wantOwn(t, p, l)
	}
	texts := []string{drawnText(d), drawnText(d)}
	wantName(t, props(), rows(texts...))
	for _, text := range texts {
		wantOwn(t, props(), row(text))
	}
}

func TestDrawn(t *testing.T) {
	for seed := range int64(20000) {
		wantDrawn(t, seed)
	}
}

func FuzzDrawn(f *testing.F) {
	for seed := range int64(20) {
		f.Add(seed)
	}
	f.Fuzz(func(t *testing.T, seed int64) { wantDrawn(t, seed) })
}
