package jsonval_test

import (
	"encoding/json"
	"errors"
	"fmt"
	"math"
	"math/rand"
	"reflect"
	"regexp"
	"slices"
	"strings"
	"testing"
	"unicode/utf8"

	"eponym/api"
	"eponym/jsonval"
)

// wantFault fails unless the error is just a Fault of that named error at that place.
func wantFault(t *testing.T, what string, e error, place int, named error) {
	t.Helper()
	if named == nil {
		if e != nil {
			t.Errorf("%s: %s, want no error", what, told(e))
		}
		return
	}
	var f *api.Fault
	if !errors.As(e, &f) {
		t.Errorf("%s: %v is no Fault, want %q at %d", what, e, named, place)
		return
	}
	if f.At != place || !errors.Is(e, named) {
		t.Errorf("%s: %q at %d, want %q at %d", what, f.Err, f.At, named, place)
	}
}

// told is an error as a text.
func told(e error) string {
	var f *api.Fault
	if errors.As(e, &f) {
		return fmt.Sprintf("%v at %d", f.Err, f.At)
	}
	return fmt.Sprint(e)
}

// num is a number as it is written.
func num(s string) api.Value { return api.Value{Kind: api.Number, Text: s} }

// str is a string.
func str(s string) api.Value { return api.Value{Kind: api.String, Text: s} }

// arr is an array.
func arr(l ...api.Value) api.Value { return api.Value{Kind: api.Array, List: l} }

// obj is an object.
func obj(l ...api.Member) api.Value { return api.Value{Kind: api.Object, Members: l} }

// mem is a member.
func mem(name string, v api.Value) api.Member { return api.Member{Name: name, Value: v} }

// null, no and yes are the values that have nothing.
var null, no, yes = api.Value{}, api.Value{Kind: api.False}, api.Value{Kind: api.True}

// inner is one of a value's values, and its level.
type inner struct {
	v     api.Value
	level int
}

// all are a value's values, each ahead of those within it.
func all(v api.Value, level int) []inner {
	l := []inner{{v, level}}
	for _, x := range v.List {
		l = append(l, all(x, level+1)...)
	}
	for _, m := range v.Members {
		l = append(l, all(m.Value, level+1)...)
	}
	return l
}

// number is how a number is written, by the chapter's words.
var number = regexp.MustCompile(`\A-?(?:0|[1-9][0-9]*)(?:\.[0-9]+)?(?:[eE][+-]?[0-9]+)?\z`)

// hasMore tells whether a value has what its Kind doesn't have.
func hasMore(v api.Value) bool {
	has := fmt.Sprint(v.Text != "", len(v.List) > 0, len(v.Members) > 0)
	fits := map[int][]string{
		api.Number: {"true false false", "false false false"}, api.String: {"true false false", "false false false"},
		api.Array: {"false true false", "false false false"}, api.Object: {"false false true", "false false false"},
	}
	return has != "false false false" && !slices.Contains(fits[v.Kind], has)
}

// namedOf is what is wrong with a value by itself, by the chapter's table.
func namedOf(x inner) error {
	v, names := x.v, map[string]int{}
	broken := v.Kind == api.String && !utf8.ValidString(v.Text)
	for _, m := range v.Members {
		names[m.Name]++
		broken = broken || v.Kind == api.Object && !utf8.ValidString(m.Name)
	}
	for _, row := range []struct {
		holds bool
		named error
	}{
		{x.level > 32, api.ErrDeep},
		{!slices.Contains([]int{0, 1, 2, 3, 4, 5, 6}, v.Kind), api.ErrKind},
		{hasMore(v) || v.Kind == api.Number && !number.MatchString(v.Text), api.ErrForm},
		{broken, api.ErrByte},
		{v.Kind == api.Object && len(names) < len(v.Members), api.ErrThere},
	} {
		if row.holds {
			return row.named
		}
	}
	return nil
}

// faultOf is what Check is to tell, by the chapter's words.
func faultOf(v api.Value) (place int, named error) {
	for i, x := range all(v, 1) {
		if named := namedOf(x); named != nil {
			return i, named
		}
	}
	return 0, nil
}

// quoteOf is a text in quotes, by the chapter's words.
func quoteOf(s string) string {
	short := map[byte]string{'"': `\"`, '\\': `\\`, 8: `\b`, 9: `\t`, 0xa: `\n`, 0xc: `\f`, 0xd: `\r`}
	q := `"`
	for _, c := range []byte(s) {
		switch as, there := short[c]; {
		case there:
			q += as
		case c < 0x20:
			q += fmt.Sprintf(`\u%04x`, c)
		default:
			q += string([]byte{c})
		}
	}
	return q + `"`
}

// textOf is a right value's text, by the chapter's words; its members in their order, or sorted.
func textOf(v api.Value, sorted bool) string {
	var parts []string
	for _, x := range v.List {
		parts = append(parts, textOf(x, sorted))
	}
	for _, m := range v.Members {
		parts = append(parts, quoteOf(m.Name)+":"+textOf(m.Value, sorted))
	}
	if sorted && v.Kind == api.Object {
		slices.Sort(parts)
	}
	between := strings.Join(parts, ",")
	return []string{"null", "false", "true", v.Text, quoteOf(v.Text), "[" + between + "]", "{" + between + "}"}[v.Kind]
}

// readBack is the value that a text is of, as the library reads it.
func readBack(t *testing.T, s string) api.Value {
	t.Helper()
	d := json.NewDecoder(strings.NewReader(s))
	d.UseNumber()
	v := readNext(t, d)
	if d.More() || d.InputOffset() != int64(len(s)) {
		t.Errorf("%q: more behind it", s)
	}
	return v
}

// readNext is the value that comes next.
func readNext(t *testing.T, d *json.Decoder) api.Value {
	t.Helper()
	token, e := d.Token()
	if e != nil {
		t.Fatal(e)
	}
	switch x := token.(type) {
	case nil:
		return null
	case bool:
		if x {
			return yes
		}
		return no
	case json.Number:
		return num(x.String())
	case string:
		return str(x)
	}
	v := arr()
	if token == json.Delim('{') {
		v = obj()
	}
	for d.More() {
		if v.Kind == api.Object {
			name := readNext(t, d).Text
			v.Members = append(v.Members, mem(name, readNext(t, d)))
			continue
		}
		v.List = append(v.List, readNext(t, d))
	}
	d.Token()
	return v
}

// same tells whether two values are the same, a nil list as one without elements.
func same(a, b api.Value) bool {
	return a.Kind == b.Kind && a.Text == b.Text && slices.EqualFunc(a.List, b.List, same) &&
		slices.EqualFunc(a.Members, b.Members, func(a, b api.Member) bool { return a.Name == b.Name && same(a.Value, b.Value) })
}

// wantValue fails unless Check, Size and Text say of a value what the chapter's words do.
func wantValue(t *testing.T, v api.Value) {
	t.Helper()
	place, named := faultOf(v)
	what := fmt.Sprintf("Check(%.200q)", fmt.Sprint(v))
	wantFault(t, what, jsonval.Check(v), place, named)
	if got, want := jsonval.Size(v), len(all(v, 1)); got != want {
		t.Errorf("%s: a Size of %d, want %d", what, got, want)
	}
	got, want := jsonval.Text(v), ""
	if named == nil {
		want = textOf(v, false)
	}
	if got != want {
		t.Errorf("%s: Text is %q, want %q", what, got, want)
	}
}

// wantRead fails unless a value is right, and the library reads it from its text. P12.5: what is read from one text is one value.
func wantRead(t *testing.T, v api.Value) {
	t.Helper()
	wantValue(t, v)
	wantFault(t, fmt.Sprint(v), jsonval.Check(v), 0, nil)
	if again := readBack(t, jsonval.Text(v)); !same(again, v) {
		t.Errorf("%v was read from %q, the text of %v", again, jsonval.Text(v), v)
	}
}

// wantCheck fails unless Check tells that error at that number, by the tests' own words too.
func wantCheck(t *testing.T, v api.Value, place int, named error) {
	t.Helper()
	if ownPlace, own := faultOf(v); own != named || ownPlace != place {
		t.Errorf("%.200q: by the tests' own words %v at %d, want %v at %d", fmt.Sprint(v), own, ownPlace, named, place)
	}
	wantFault(t, fmt.Sprintf("%.200q", fmt.Sprint(v)), jsonval.Check(v), place, named)
	wantValue(t, v)
}

// The chapter's example.
func TestExamples(t *testing.T) {
	v := jsonval.Obj(api.Member{Name: "a", Value: jsonval.List(jsonval.Int(1), api.Value{})})
	if s := jsonval.Text(v); s != `{"a":[1,null]}` {
		t.Error(s)
	}
	wantRead(t, v)
}

// P12.1: numbers that are written so.
func TestWritten(t *testing.T) {
	right := []string{
		"0", "-0", "1", "-1", "9", "10", "-10", "1234567890", "0.0", "-0.0", "0.5", "1.5", "1.50", "10.01", "1.000", "0e0", "0E0", "-0e-0", "1e0", "1e00", "1e01", "1e5", "1E5", "1e+5", "1e-5", "1E+5", "1E-5",
		"1.5e5", "-1.5E-05", "0.0e+00", "100000000000000000000", "-9223372036854775809", "1e999999999999999999999", "0.00000000000000000000000000001", "90", "0.9e9",
	}
	wrong := []string{
		"", "-", "--1", "--", "-+1", "+1", "+", "00", "01", "-00", "-01", "000", "0123", "00.5", "01e1", ".", ".5", "-.5", "1.", "-1.", "0.", "1..5", "1.5.5", "1.e5", "1.+5", "1.-5", "e", "e5", "-e5", ".e5", "E", "1e", "1E", "1e+", "1e-", "1E+",
		"1e++5", "1e+-5", "1e--5", "1e5e5", "1ee5", "1eE5", "1e5.5", "1e.5", "1e5+", "1.5e", "1.5e+", "1-", "1-1", "1+1", "1 ", " 1", "1\n", "\t1", "1\x00", "\x00", "1,", "1]", "0x1", "0b1", "1_0", "1f", "1a", "a", "a1", "NaN", "Infinity", "-Infinity", "null",
		"\u0661", "1\u0661", "\uff11", "1\u00b2", "1\xff", "\xff1", "\xff", "1\x80", "\xb2", "1.\xff", "1e\xff", "/", ":", "1/", "1:", "1e/", "1.:", "0-", "-0-", "1E5E", "1e5-", "\"1\"", "1.0.", "0.e", "-e", "-.", "-0.", "-0e", "0e+-1", "1e+ 1", "- 1", "1 .5",
	}
	for _, s := range right {
		if !jsonval.Written(s) || !number.MatchString(s) || !json.Valid([]byte(s)) {
			t.Errorf("%q isn't written so", s)
		}
		wantRead(t, num(s))
	}
	for _, s := range wrong {
		if jsonval.Written(s) || number.MatchString(s) {
			t.Errorf("%q is written so", s)
		}
		wantCheck(t, num(s), 0, api.ErrForm)
	}
	if jsonval.Written("1") == jsonval.Written("-") {
		t.Error("a hyphen alone")
	}
}

// telling are all texts of up to so many of these bytes.
func telling(bytes string, most int) []string {
	l := []string{""}
	for from := 0; most > 0; most-- {
		to := len(l)
		for ; from < to; from++ {
			for i := range len(bytes) {
				l = append(l, l[from]+bytes[i:i+1])
			}
		}
	}
	return l
}

// P12.1: Written of all short texts of what numbers are written by, and of all bytes ahead of, in and behind one.
func TestWrittenOfShortTexts(t *testing.T) {
	for _, texts := range [][]string{telling("01-+.eE ", 6), telling("09-.e", 7), telling("0.e+", 8)} {
		for _, s := range texts {
			if got, want := jsonval.Written(s), number.MatchString(s); got != want || want != (json.Valid([]byte(s)) && strings.TrimSpace(s) == s) {
				t.Fatalf("Written(%q): %t, want %t", s, got, want)
			}
		}
	}
	for c := range 256 {
		for _, s := range []string{"", "1", "0", "-", "1.", "1.5", "1e", "1e+", "1e-5", "10"} {
			for _, behind := range []string{"", "1", "0", ".5", "e5", "-1"} {
				if s := s + string([]byte{byte(c)}) + behind; jsonval.Written(s) != number.MatchString(s) {
					t.Errorf("Written(%q): %t", s, jsonval.Written(s))
				}
			}
		}
	}
}

// atPlaces are values of which one is that one, and its number.
func atPlaces(v api.Value) map[int][]api.Value {
	many := make([]api.Value, 1000)
	members := make([]api.Member, 500)
	for i := range members {
		members[i] = mem(fmt.Sprint(i), arr(null))
	}
	return map[int][]api.Value{
		0: {v},
		1: {arr(v), obj(mem("", v)), arr(v, null), obj(mem("a", v), mem("b", null)), arr(v, v), obj(mem("\"", v), mem("b", v))},
		2: {arr(null, v), arr(arr(v)), obj(mem("a", obj(mem("a", v)))), obj(mem("b", str("a")), mem("a", v)), arr(obj(mem("a", v))), obj(mem("a", arr(v, v))), arr(arr(), v), arr(obj(), v, no)},
		3: {arr(arr(yes), v), arr(yes, no, v), arr(arr(arr(v))), obj(mem("a", arr(null)), mem("b", v)), obj(mem("a", obj(mem("b", null))), mem("b", v)), arr(null, arr(v), v), arr(obj(mem("a", no)), v)},
		6: {obj(mem("z", arr(null, arr(yes), no)), mem("a", v)), arr(arr(arr(null), arr(null)), v)}, 1001: {arr(append(many, v)...), obj(append(slices.Clone(members), mem("", v))...)}, 1002: {arr(arr(many...), v), arr(arr(append(many, v)...))},
	}
}

// wrongs are values that are wrong by themselves, wherever they stand, by their errors.
func wrongs() map[error][]api.Value {
	wrong := map[error][]api.Value{
		api.ErrForm: {
			{Text: "a"}, {Text: "null"}, {Kind: api.False, Text: "false"}, {Kind: api.True, Text: "\x00"}, {Kind: api.Array, Text: "["}, {Kind: api.Object, Text: "{}"}, {Kind: api.Array, List: []api.Value{{}}, Text: "\xff"}, {Kind: api.Object, Members: []api.Member{{}}, Text: "\xff"},
			num(""), num("01"), num("-"), num("\xff"), num(" 1"),
		},
		api.ErrByte: {
			str("\xff"), str("a\xc3"), str("\xed\xa0\x80"), str("\xc0\x80"), str("\xf4\x90\x80\x80"), str("a\x80"), str("\xef\xbf"), obj(mem("\xff", null)), obj(mem("a", null), mem("\x80", no)), obj(mem("\xe2\x82", null), mem("a", null)), obj(mem("", null), mem("a\xc3", null), mem("b", null)),
		},
		api.ErrThere: {
			obj(mem("a", null), mem("a", null)), obj(mem("a", null), mem("a", yes)), obj(mem("", null), mem("", null)), obj(mem("a", null), mem("b", null), mem("a", null)), obj(mem("", null), mem("b", null), mem("", yes)), obj(mem("c", no), mem("a", null), mem("b", null), mem("b", null)),
			obj(mem("b", null), mem("a", null), mem("c", null), mem("b", null), mem("d", null)), obj(mem("\u00e9", null), mem("e", null), mem("\u00e9", null)), obj(mem("a", null), mem("a", null), mem("a", null)),
		},
	}
	for _, kind := range []int{-1, 7, -2, 8, 100, 256, 262, math.MinInt, math.MaxInt, 1 << 32, 1<<32 + 1} {
		wrong[api.ErrKind] = append(wrong[api.ErrKind], api.Value{Kind: kind})
	}
	for _, kind := range []int{api.Null, api.False, api.True, api.Number, api.String, api.Array, api.Object} {
		for _, v := range []api.Value{{Kind: kind, Text: "1", List: []api.Value{null}, Members: []api.Member{{}}}, {Kind: kind, Text: "0", List: []api.Value{no}}, {Kind: kind, Text: "0", Members: []api.Member{{}}}, {Kind: kind, List: []api.Value{null}, Members: []api.Member{{}}}} {
			wrong[api.ErrForm] = append(wrong[api.ErrForm], v)
		}
		if kind != api.Array {
			wrong[api.ErrForm] = append(wrong[api.ErrForm], api.Value{Kind: kind, List: []api.Value{null}})
		}
		if kind != api.Object {
			wrong[api.ErrForm] = append(wrong[api.ErrForm], api.Value{Kind: kind, Members: []api.Member{{}}})
		}
	}
	return wrong
}

// P12.1: each of the errors alone, at the number of its value, wherever that stands.
func TestCheckOfWrongValues(t *testing.T) {
	for named, values := range wrongs() {
		for _, v := range values {
			for place, l := range atPlaces(v) {
				for _, whole := range l {
					wantCheck(t, whole, place, named)
				}
			}
		}
	}
}

// P12.1: of two values that are wrong the first one is told, whichever errors they have.
func TestCheckOfTwoWrongValues(t *testing.T) {
	for first, some := range wrongs() {
		for _, others := range wrongs() {
			for _, v := range some {
				for _, other := range others {
					wantCheck(t, arr(v, other), 1, first)
					wantCheck(t, obj(mem("b", null), mem("c", v), mem("a", other)), 2, first)
					wantCheck(t, arr(arr(yes, v), other), 3, first)
				}
			}
		}
	}
}

// P12.1: a value is looked at ahead of those within it.
func TestCheckOfWrongValuesWithin(t *testing.T) {
	for named, values := range wrongs() {
		for _, v := range values {
			wantCheck(t, arr(null, obj(mem("a", v), mem("a", null))), 2, api.ErrThere)
			wantCheck(t, arr(null, obj(mem("\xff", v))), 2, api.ErrByte)
			wantCheck(t, arr(api.Value{Kind: api.Array, Text: "a", List: []api.Value{v}}), 1, api.ErrForm)
			wantCheck(t, arr(api.Value{Kind: 9, List: []api.Value{v}, Members: []api.Member{{Value: v}}}), 1, api.ErrKind)
			wantCheck(t, arr(api.Value{List: []api.Value{v}}), 1, api.ErrForm)
			wantCheck(t, nested(32, arr(v), arrOf), 32, api.ErrDeep)
			if len(v.List) == 0 && len(v.Members) == 0 {
				wantCheck(t, nested(32, v, arrOf), 32, api.ErrDeep)
				wantCheck(t, nested(31, v, arrOf), 31, named)
			}
		}
	}
}

// P12.1: several errors at once in one value, told in the chapter's order.
func TestCheckOfSeveralFaults(t *testing.T) {
	order := []error{api.ErrDeep, api.ErrKind, api.ErrForm, api.ErrByte, api.ErrThere}
	for choice := range 1 << len(order) {
		v, level, want := obj(mem("a", null), mem("b", null)), 2, error(nil)
		if choice&16 > 0 {
			v.Members, want = append(v.Members, mem("a", yes)), api.ErrThere
		}
		if choice&8 > 0 {
			v.Members, want = append(v.Members, mem("\xff", null)), api.ErrByte
		}
		if choice&4 > 0 {
			v.Text, want = "a", api.ErrForm
		}
		if choice&2 > 0 {
			v.Kind, want = 7, api.ErrKind
		}
		if choice&1 > 0 {
			level, want = 33, api.ErrDeep
		}
		for _, how := range ways() {
			place := level - 1
			if want == nil {
				place = 0
			}
			wantCheck(t, nested(level-1, v, how), place, want)
		}
	}
	// A String's errors, and one of a Kind that the others don't have.
	wantCheck(t, api.Value{Kind: api.String, Text: "\xff", List: []api.Value{null}}, 0, api.ErrForm)
	wantCheck(t, api.Value{Kind: api.String, Text: "\xff", Members: []api.Member{{}}}, 0, api.ErrForm)
	wantCheck(t, api.Value{Kind: -1, Text: "\xff", List: []api.Value{{Kind: 9}}}, 0, api.ErrKind)
	wantCheck(t, api.Value{Kind: api.Number, Text: "\xff"}, 0, api.ErrForm)
	wantCheck(t, nested(32, str("\xff"), arrOf), 32, api.ErrDeep)
	wantCheck(t, nested(32, num("01"), objOf), 32, api.ErrDeep)
}

// arrOf and objOf are a value that has that one.
func arrOf(v api.Value) api.Value { return arr(v) }
func objOf(v api.Value) api.Value { return obj(mem("a", v)) }

// ways are how a value may have another one, for each of several levels.
func ways() []func(api.Value) api.Value {
	turn := 0
	return []func(api.Value) api.Value{arrOf, objOf, func(v api.Value) api.Value {
		turn++
		if turn%2 == 0 {
			return arr(v)
		}
		return objOf(v)
	}}
}

// nested is a value within so many others.
func nested(levels int, v api.Value, how func(api.Value) api.Value) api.Value {
	for range levels {
		v = how(v)
	}
	return v
}

// P12.1: levels 32 and 33, by Lists, by Members, by both.
func TestCheckOfLevels(t *testing.T) {
	for _, how := range ways() {
		for _, v := range []api.Value{null, no, num("1"), str(""), arr(), obj()} {
			for levels := range 40 {
				if levels < api.MaxDepth {
					wantRead(t, nested(levels, v, how))
					continue
				}
				wantCheck(t, nested(levels, v, how), 32, api.ErrDeep)
			}
			// Behind what is within level 32, and more than once.
			deepest, deeper := nested(30, v, how), nested(31, v, how)
			wantRead(t, arr(deepest, deepest))
			wantCheck(t, arr(deepest, deeper, null), 63, api.ErrDeep)
			wantCheck(t, arr(deepest, deepest, null, deeper), 95, api.ErrDeep)
			wantCheck(t, arr(arr(deepest), deepest), 32, api.ErrDeep)
			wantCheck(t, obj(mem("b", deepest), mem("a", deeper), mem("c", api.Value{Kind: 7})), 63, api.ErrDeep)
			wantCheck(t, obj(mem("b", api.Value{Kind: 7}), mem("a", arr(deeper))), 1, api.ErrKind)
		}
	}
}

// P12.1: one Name in two Objects, in one within another, and Names that are alike.
func TestCheckOfNames(t *testing.T) {
	for _, v := range []api.Value{
		arr(obj(mem("a", null)), obj(mem("a", null))), obj(mem("a", obj(mem("a", obj(mem("a", null)))))), obj(mem("", obj(mem("", null)))), obj(mem("a", obj(mem("b", null))), mem("b", null)), obj(mem("a", null), mem("A", null), mem("", null), mem(" ", null), mem("a ", null), mem("aa", null)),
		obj(mem("\u00e9", null), mem("e\u0301", null), mem("e", null)), obj(mem("\x00", null), mem("", null), mem("\x00\x00", null)), obj(mem("a", str("a")), mem("b", str("a"))), arr(str("a"), str("a")), obj(mem("\x7f", null), mem("\ufffd", null), mem("\uffff", null), mem("\U0010ffff", null)),
		obj(mem("b", null), mem("a", null)), obj(mem("10", null), mem("1", null), mem("01", null)), obj(mem("\"", null), mem("\\\"", null), mem("\\", null)),
	} {
		wantRead(t, v)
	}
	// Each two of several that have one name.
	for i := range 6 {
		for j := range i {
			v := obj(mem("c", null), mem("b", null), mem("f", null), mem("a", null), mem("d", null), mem("e", null))
			v.Members[i].Name = v.Members[j].Name
			wantCheck(t, v, 0, api.ErrThere)
			wantCheck(t, arr(obj(mem("a", v))), 2, api.ErrThere)
		}
	}
}

// P12.1: all bytes and pairs of bytes as Strings and Names.
func TestCheckOfTexts(t *testing.T) {
	texts := telling("\x00\x1fa\"\\\x7f\x80\xa0\xbf\xc1\xc2\xe0\xed\xef\xf0\xf4\xf5\xff", 3)
	for i := range 1 << 16 {
		texts = append(texts, string([]byte{byte(i >> 8), byte(i)}))
	}
	for _, s := range texts {
		var named error
		if !utf8.ValidString(s) {
			named = api.ErrByte
		}
		wantFault(t, fmt.Sprintf("%q", s), jsonval.Check(str(s)), 0, named)
		wantFault(t, fmt.Sprintf("the name %q", s), jsonval.Check(obj(mem("abcd", null), mem(s, null))), 0, named)
	}
}

// P12.1: Size of each Kind, of Lists and Objects within one another, and of values that aren't right.
func TestSize(t *testing.T) {
	for _, c := range []struct {
		v    api.Value
		want int
	}{
		{null, 1}, {no, 1}, {yes, 1}, {num("12"), 1}, {str("abc"), 1}, {arr(), 1}, {obj(), 1}, {arr(null), 2}, {obj(mem("a", null)), 2}, {arr(null, null), 3}, {arr(arr()), 2}, {arr(arr(arr())), 3}, {arr(arr(), arr()), 3}, {arr(arr(null), arr(null, no)), 6},
		{obj(mem("a", arr(null, no)), mem("b", obj(mem("a", null)))), 6}, {obj(mem("", obj()), mem("b", arr())), 3}, {arr(make([]api.Value, 1000)...), 1001}, {arr(arr(make([]api.Value, 1000)...), arr(make([]api.Value, 1000)...)), 2003}, {nested(31, null, arrOf), 32}, {nested(5, arr(null, no), objOf), 8},
		{num("x"), 1}, {str("\xff"), 1}, {api.Value{Kind: 7}, 1}, {obj(mem("a", null), mem("a", null)), 3}, {nested(40, null, objOf), 41}, {api.Value{Kind: -1, Text: "a"}, 1}, {arr(api.Value{Kind: 9}, num("")), 3},
		{api.Value{List: []api.Value{null, arr(no)}}, 4}, {api.Value{Kind: api.String, Members: []api.Member{mem("a", null)}}, 2}, {api.Value{Kind: api.Object, List: []api.Value{null}, Members: []api.Member{mem("a", arr(null))}}, 4},
	} {
		if got := jsonval.Size(c.v); got != c.want {
			t.Errorf("Size(%.200q): %d, want %d", fmt.Sprint(c.v), got, c.want)
		}
		wantValue(t, c.v)
	}
}

// P12.2: the text of each Kind, of empty Lists and Objects, and of those that have one or several.
func TestText(t *testing.T) {
	for _, c := range []struct {
		v    api.Value
		want string
	}{
		{null, "null"}, {no, "false"}, {yes, "true"}, {num("0"), "0"}, {num("-0"), "-0"}, {num("1.50E+007"), "1.50E+007"}, {num("100000000000000000000000"), "100000000000000000000000"}, {str(""), `""`}, {str("a"), `"a"`}, {str("null"), `"null"`}, {str("1"), `"1"`},
		{arr(), "[]"}, {arr(null), "[null]"}, {arr(null, no), "[null,false]"}, {arr(yes, num("1"), str("a")), `[true,1,"a"]`}, {arr(arr()), "[[]]"}, {arr(arr(), arr()), "[[],[]]"}, {arr(obj(), arr(num("1"), num("2")), num("3")), "[{},[1,2],3]"},
		{obj(), "{}"}, {obj(mem("a", null)), `{"a":null}`}, {obj(mem("", str(""))), `{"":""}`}, {obj(mem("b", num("1")), mem("a", num("2"))), `{"b":1,"a":2}`}, {obj(mem("a", obj(mem("a", obj())))), `{"a":{"a":{}}}`}, {obj(mem("x\"", arr()), mem("\\", obj()), mem("\n", yes)), `{"x\"":[],"\\":{},"\n":true}`},
		{arr(str("a,b"), str("]"), str(":"), str("{")), `["a,b","]",":","{"]`}, {str("\u00e9\u4e2d\U0001f600\u2028"), "\"\u00e9\u4e2d\U0001f600\u2028\""}, {obj(mem("\u00e9", str("/<&>'"))), "{\"\u00e9\":\"/<&>'\"}"}, {nested(31, null, arrOf), strings.Repeat("[", 31) + "null" + strings.Repeat("]", 31)},
	} {
		if got := jsonval.Text(c.v); got != c.want {
			t.Errorf("%q, want %q", got, c.want)
		}
		wantRead(t, c.v)
	}
}

// P12.2: Text is empty of a value that isn't right, wherever what is wrong stands.
func TestTextOfWrongValues(t *testing.T) {
	for _, values := range wrongs() {
		for _, v := range values {
			for _, l := range atPlaces(v) {
				for _, whole := range l {
					if s := jsonval.Text(whole); s != "" {
						t.Errorf("%q", s)
					}
				}
			}
		}
	}
	if s := jsonval.Text(nested(32, null, arrOf)); s != "" {
		t.Errorf("%q", s)
	}
}

// P12.2: Quote of each byte, alone and beside others, whatever the text is.
func TestQuote(t *testing.T) {
	for _, c := range []struct{ s, want string }{
		{"", `""`}, {"a", `"a"`}, {`"`, `"\""`}, {`\`, `"\\"`}, {"/", `"/"`}, {"\x7f", "\"\x7f\""}, {"\x00", `"\u0000"`}, {"\x01", `"\u0001"`}, {"\x07", `"\u0007"`}, {"\b", `"\b"`}, {"\t", `"\t"`}, {"\n", `"\n"`}, {"\x0b", `"\u000b"`}, {"\f", `"\f"`}, {"\r", `"\r"`}, {"\x0e", `"\u000e"`},
		{"\x0f", `"\u000f"`}, {"\x10", `"\u0010"`}, {"\x1a", `"\u001a"`}, {"\x1b", `"\u001b"`}, {"\x1f", `"\u001f"`}, {" ", `" "`}, {"\x80", "\"\x80\""}, {"\xff\xfe", "\"\xff\xfe\""}, {"\xc3", "\"\xc3\""}, {"\xed\xa0\x80", "\"\xed\xa0\x80\""}, {"\u00e9", "\"\u00e9\""}, {"\u2028<>&'", "\"\u2028<>&'\""},
		{`\"`, `"\\\""`}, {`"\`, `"\"\\"`}, {`\\`, `"\\\\"`}, {`\n`, `"\\n"`}, {`\u0001`, `"\\u0001"`}, {"a\nb\"c\\d\x01e\xff", "\"a\\nb\\\"c\\\\d\\u0001e\xff\""}, {"bfnrtu", `"bfnrtu"`}, {`""`, `"\"\""`},
	} {
		if got := jsonval.Quote(c.s); got != c.want || quoteOf(c.s) != c.want {
			t.Errorf("Quote(%q): %q, by the tests' own words %q, want %q", c.s, got, quoteOf(c.s), c.want)
		}
	}
	for i := range 1 << 16 {
		s := string([]byte{byte(i >> 8), byte(i)})
		for _, s := range []string{s, s[1:]} {
			if got := jsonval.Quote(s); got != quoteOf(s) {
				t.Fatalf("Quote(%q): %q, want %q", s, got, quoteOf(s))
			}
		}
		var again string
		if e := json.Unmarshal([]byte(jsonval.Quote(s)), &again); e != nil || again != s && utf8.ValidString(s) {
			t.Fatalf("%q: %q is read as %q, %v", s, jsonval.Quote(s), again, e)
		}
	}
}

// wantEqual fails unless Equal says that of two right values, in both orders.
func wantEqual(t *testing.T, a, b api.Value, want bool) {
	t.Helper()
	if own := textOf(a, true) == textOf(b, true); own != want {
		t.Errorf("%v and %v: by the tests' own words %t, want %t", a, b, own, want)
	}
	for _, x := range []api.Value{a, b} {
		wantFault(t, fmt.Sprint(x), jsonval.Check(x), 0, nil)
		if !jsonval.Equal(x, x) {
			t.Errorf("%v isn't equal to itself", x)
		}
	}
	if jsonval.Equal(a, b) != want || jsonval.Equal(b, a) != want {
		t.Errorf("Equal(%v, %v): %t, and %t, want %t", a, b, jsonval.Equal(a, b), jsonval.Equal(b, a), want)
	}
}

// P12.3: Members in another order, one more or less, of one Name and another Value, within one another.
func TestEqualOfMembers(t *testing.T) {
	a, b, c, d := mem("a", num("1")), mem("b", num("2")), mem("", arr(null)), mem("c", obj(mem("a", no), mem("b", yes)))
	turned := mem("c", obj(mem("b", yes), mem("a", no)))
	for _, x := range []struct {
		a, b api.Value
		want bool
	}{
		{obj(), obj(), true}, {obj(a), obj(a), true}, {obj(a, b), obj(b, a), true}, {obj(a, b, c), obj(c, a, b), true}, {obj(a, b, c, d), obj(d, c, b, a), true}, {obj(a, b, c, d), obj(b, turned, c, a), true}, {arr(obj(a, b)), arr(obj(b, a)), true}, {obj(mem("x", obj(a, b))), obj(mem("x", obj(b, a))), true},
		{obj(mem("x", obj(a, b)), mem("y", obj(c))), obj(mem("y", obj(c)), mem("x", obj(b, a))), true}, {obj(), obj(a), false}, {obj(a), obj(a, b), false}, {obj(a, b), obj(b), false}, {obj(a, b, c), obj(a, b), false}, {obj(a, b), obj(a, c), false}, {obj(a), obj(mem("a", num("2"))), false},
		{obj(a, b), obj(mem("a", num("2")), mem("b", num("1"))), false}, {obj(a), obj(mem("A", num("1"))), false}, {obj(a), obj(mem("", num("1"))), false}, {obj(a), obj(mem("aa", num("1"))), false}, {obj(mem("a", null)), obj(mem("b", null)), false}, {obj(mem("a", null)), obj(), false}, {obj(mem("", null)), obj(), false},
		{obj(a, d), obj(a, mem("c", obj(mem("a", no)))), false}, {obj(mem("x", obj(a, b))), obj(mem("x", obj(a, c))), false}, {obj(mem("x", obj(a))), obj(mem("x", arr(num("1")))), false}, {obj(mem("a", arr(null, no))), obj(mem("a", arr(no, null))), false}, {obj(a, b, c), obj(a, b, mem("", arr(no))), false},
		{obj(mem("a", null), mem("b", no), mem("c", yes)), obj(mem("a", null), mem("b", yes), mem("c", no)), false}, {obj(mem("a", null), mem("b", no)), obj(mem("b", null), mem("a", no)), false}, {obj(mem("\u00e9", null)), obj(mem("e\u0301", null)), false}, {obj(mem("a", str("b"))), obj(mem("b", str("a"))), false},
	} {
		wantEqual(t, x.a, x.b, x.want)
		wantEqual(t, arr(null, x.a), arr(null, x.b), x.want)
		wantEqual(t, obj(mem("z", x.a), mem("a", no)), obj(mem("a", no), mem("z", x.b)), x.want)
	}
}

// P12.3: Lists in another order, numbers that are written differently, Kinds that differ.
func TestEqualOfOthers(t *testing.T) {
	for _, x := range []struct {
		a, b api.Value
		want bool
	}{
		{arr(), arr(), true}, {arr(null, no), arr(null, no), true}, {arr(arr(no), yes), arr(arr(no), yes), true}, {num("1"), num("1"), true}, {str("a"), str("a"), true}, {null, null, true}, {yes, yes, true},
		{arr(null, no), arr(no, null), false}, {arr(null), arr(), false}, {arr(null), arr(null, null), false}, {arr(null, null), arr(null), false}, {arr(num("1"), num("2")), arr(num("2"), num("1")), false}, {arr(arr(null)), arr(null), false}, {arr(arr()), arr(), false}, {arr(arr(), arr(null)), arr(arr(null), arr()), false},
		{num("1"), num("1.0"), false}, {num("0"), num("-0"), false}, {num("1e1"), num("1E1"), false}, {num("1e1"), num("1e+1"), false}, {num("10"), num("1e1"), false}, {num("0.5"), num("0.50"), false}, {str("a"), str("A"), false}, {str(""), str("a"), false}, {str("\u00e9"), str("e\u0301"), false},
	} {
		wantEqual(t, x.a, x.b, x.want)
	}
	different := []api.Value{null, no, yes, num("1"), str("1"), str("null"), str(""), arr(), obj(), arr(null), obj(mem("", null)), arr(str("")), str("[]"), str("{}"), num("0")}
	for i, a := range different {
		for j, b := range different {
			wantEqual(t, a, b, i == j)
			wantEqual(t, arr(a), arr(b), i == j)
			wantEqual(t, obj(mem("a", a)), obj(mem("a", b)), i == j)
		}
	}
	// A list that is nil and one without elements are the same thing.
	if !jsonval.Equal(api.Value{Kind: api.Array, List: []api.Value{}, Members: []api.Member{}}, api.Value{Kind: api.Array}) || !jsonval.Equal(api.Value{Kind: api.Object}, api.Value{Kind: api.Object, Members: []api.Member{}}) {
		t.Error("nil lists")
	}
	if jsonval.Check(api.Value{Kind: api.Null, List: []api.Value{}, Members: []api.Member{}}) != nil {
		t.Error("lists without elements")
	}
}

// P12.3: Get of a Name that is there, that isn't, of several, and of values that are no Objects.
func TestGet(t *testing.T) {
	v := obj(mem("b", num("1")), mem("a", arr(null)), mem("", str("x")), mem("\xff", yes), mem("b", num("2")), mem("", null), mem("c", null), mem("A", api.Value{Kind: 9, Text: "z"}), mem("a", null))
	for name, want := range map[string]api.Value{"b": num("1"), "a": arr(null), "": str("x"), "\xff": yes, "c": null, "A": {Kind: 9, Text: "z"}} {
		if got, ok := jsonval.Get(v, name); !ok || !same(got, want) {
			t.Errorf("Get(%q): %v, %t, want %v", name, got, ok, want)
		}
	}
	for _, name := range []string{"B", "aa", " ", "d", "\x00", "a\x00", "\xfe", "\ufffd", "x", "1"} {
		if got, ok := jsonval.Get(v, name); ok || !same(got, null) {
			t.Errorf("Get(%q): %v, %t", name, got, ok)
		}
	}
	if got, ok := jsonval.Get(obj(mem("a", obj(mem("b", yes)))), "b"); ok || !same(got, null) {
		t.Errorf("a member of a member: %v", got)
	}
	for _, name := range []string{"", "a"} {
		if got, ok := jsonval.Get(obj(), name); ok || !same(got, null) {
			t.Errorf("of an empty Object: %v", got)
		}
	}
	for _, kind := range []int{math.MinInt, -1, 0, 1, 2, 3, 4, 5, 7, 12, math.MaxInt} {
		x := v
		x.Kind = kind
		for _, name := range []string{"", "a", "b", "d"} {
			if got, ok := jsonval.Get(x, name); ok || !same(got, null) {
				t.Errorf("Get(%q) of the Kind %d: %v", name, kind, got)
			}
		}
	}
	x := v
	x.Text, x.List = "a", []api.Value{null}
	if got, ok := jsonval.Get(x, "b"); !ok || !same(got, num("1")) {
		t.Errorf("of an Object that isn't right: %v, %t", got, ok)
	}
}

// P12.4: Int of the least and the greatest int, of 0, of numbers below 0, and around each power of 2 and 10.
func TestInt(t *testing.T) {
	for n, want := range map[int]string{0: "0", 1: "1", -1: "-1", 10: "10", -10: "-10", 1234567890: "1234567890", math.MinInt: "-9223372036854775808", math.MaxInt: "9223372036854775807"} {
		if got := jsonval.Int(n); !same(got, num(want)) {
			t.Errorf("%v, want %q", got, want)
		}
	}
	for power := range 64 {
		for _, n := range []int{1 << power, 1<<power - 1, 1<<power + 1, -1 << power, -1<<power - 1, int(math.Pow10(power % 19)), -int(math.Pow10(power % 19))} {
			got := jsonval.Int(n)
			if !same(got, num(fmt.Sprint(n))) || !jsonval.Written(got.Text) || jsonval.Text(got) != fmt.Sprint(n) {
				t.Errorf("Int(%d): %v", n, got)
			}
			wantRead(t, got)
		}
	}
}

// P12.4: Str, List and Obj of none, one and many, right or not.
func TestMade(t *testing.T) {
	for _, s := range []string{"", "a", "\"", "\xff", "null", "\x00", strings.Repeat("a", 1000)} {
		if got := jsonval.Str(s); !same(got, str(s)) {
			t.Errorf("Str(%q): %v", s, got)
		}
	}
	values := []api.Value{null, yes, num("1"), num("01"), str("\xff"), {Kind: 9, Text: "a", List: []api.Value{no}, Members: []api.Member{mem("a", no)}}, arr(arr(no, obj(mem("a", str("b")))), no), obj(mem("a", arr(null)), mem("a", arr(no))), {List: []api.Value{yes}}}
	var members []api.Member
	for i, v := range values {
		members = append(members, mem(strings.Repeat("a", i%3), v))
	}
	for from := range len(values) + 1 {
		for to := from; to <= len(values); to++ {
			if got := jsonval.List(values[from:to]...); !same(got, arr(values[from:to]...)) {
				t.Errorf("%v", got)
			}
			if got := jsonval.Obj(members[from:to]...); !same(got, obj(members[from:to]...)) {
				t.Errorf("%v", got)
			}
		}
	}
	if !same(jsonval.List(), arr()) || !same(jsonval.Obj(), obj()) || !same(jsonval.List(null), arr(null)) || !same(jsonval.Obj(api.Member{}), obj(mem("", null))) {
		t.Error("of none, or of one")
	}
	many := make([]api.Value, 100000)
	many[99999] = yes
	if got := jsonval.List(many...); len(got.List) != 100000 || !same(got.List[99999], yes) || !same(got.List[0], null) {
		t.Error("of many")
	}
}

// smalls are all right values of few texts, with up to two within each of the lowest two levels, and some of a level more.
func smalls() []api.Value {
	texts := []string{"", "a", "\"", ",", "\",\"", ":", "\":\"", "]", "}", "\\", "\\\"", "null", "1"}
	plain := []api.Value{null, no, yes, num("1"), num("-1"), num("11"), num("1.0"), arr(), obj()}
	for _, s := range texts {
		plain = append(plain, str(s))
	}
	l := slices.Clone(plain)
	for _, v := range plain {
		l = append(l, arr(v))
		for _, w := range plain {
			l = append(l, arr(v, w))
		}
		for i, s := range texts {
			l = append(l, obj(mem(s, v)))
			for _, other := range append(slices.Clone(texts[:i]), texts[i+1:]...)[:5] {
				l = append(l, obj(mem(s, v), mem(other, yes)), obj(mem(s, v), mem(other, str("\","))))
			}
		}
	}
	for _, v := range l[:len(l):len(l)] {
		l = append(l, arr(v, null), arr(null, v), obj(mem("\"", v)), obj(mem("a", v), mem(",", str("]"))))
	}
	return l
}

// P12.5: right values that are different have different texts, also where their Strings and Names hold what texts are made of.
func TestTextsOfDifferentValues(t *testing.T) {
	texts := map[string]api.Value{}
	for _, v := range smalls() {
		wantRead(t, v)
		s := jsonval.Text(v)
		if other, there := texts[s]; there && !same(v, other) {
			t.Errorf("%q is the text of %v and of %v", s, v, other)
		}
		texts[s] = v
	}
	for _, pair := range [][2]api.Value{
		{arr(str("a"), str("b")), arr(str(`a","b`))}, {arr(str("a"), str("b")), str(`["a","b"]`)}, {arr(arr(), arr()), arr(arr(arr()))}, {obj(mem("a", str("b"))), obj(mem(`a":"b`, null))}, {obj(mem("a", null), mem("b", null)), obj(mem(`a":null,"b`, null))}, {obj(mem("a", null), mem("b", null)), obj(mem("b", null), mem("a", null))},
		{str("1"), num("1")}, {str("null"), null}, {str(`\"`), str(`"`)}, {str("\n"), str(`\n`)}, {str("\x01"), str(`\u0001`)}, {arr(num("1"), num("1")), arr(num("11"))}, {arr(num("1")), num("1")}, {arr(), obj()}, {str(""), arr()}, {str("\x00"), str("")}, {str("\u00e9"), str("e\u0301")}, {str("\xc3\xa9"), str(`\u00e9`)}, {str("\x7f"), str(`\u007f`)},
		{num("1"), num("1.0")}, {num("0"), num("-0")}, {arr(null), arr(null, null)}, {arr(arr(null), null), arr(arr(null, null))}, {obj(mem("a", obj(mem("b", null)))), obj(mem("a", obj()), mem("b", null))}, {obj(mem("a", obj(mem("b", null), mem("c", null)))), obj(mem("a", obj(mem("b", null))), mem("c", null))},
	} {
		wantRead(t, pair[0])
		wantRead(t, pair[1])
		if jsonval.Text(pair[0]) == jsonval.Text(pair[1]) {
			t.Errorf("%q is the text of %v and of %v", jsonval.Text(pair[0]), pair[0], pair[1])
		}
	}
}

// P12.3: Equal of all pairs of some of the small values.
func TestPairsOfSmallValues(t *testing.T) {
	l := smalls()
	d := rand.New(rand.NewSource(1))
	d.Shuffle(len(l), func(i, j int) { l[i], l[j] = l[j], l[i] })
	texts := make([]string, len(l))
	for i, v := range l {
		texts[i] = textOf(v, true)
	}
	for i := range 300 {
		for j, b := range l {
			if got := jsonval.Equal(l[i], b); got != (texts[i] == texts[j]) {
				t.Fatalf("Equal(%v, %v): %t", l[i], b, got)
			}
		}
	}
}

// eachValue hands over all values of telling Kinds, Texts, Lists and Members, right and not.
func eachValue(lists [][]api.Value, members [][]api.Member, do func(api.Value)) {
	for _, kind := range []int{-1, 0, 1, 2, 3, 4, 5, 6, 7} {
		for _, s := range []string{"", "1", "01", "\xff", "a"} {
			for _, l := range lists {
				for _, m := range members {
					do(api.Value{Kind: kind, Text: s, List: l, Members: m})
				}
			}
		}
	}
}

// P12.1, P12.2: all values of telling parts, right and not, alone and within others.
func TestAllOfTellingParts(t *testing.T) {
	lists := [][]api.Value{nil, {}, {null}, {num("1"), num("x")}, {{Kind: 7}}}
	members := [][]api.Member{nil, {}, {mem("a", null)}, {mem("a", null), mem("a", null)}, {mem("\xff", null)}, {mem("a", str("\xff")), mem("b", null)}}
	var l []api.Value
	eachValue(lists, members, func(v api.Value) {
		wantValue(t, v)
		wantValue(t, arr(null, v))
		wantValue(t, obj(mem("b", v), mem("a", v)))
		wantValue(t, nested(31, v, arrOf))
		wantValue(t, nested(32, v, objOf))
		l = append(l, v)
	})
	d := rand.New(rand.NewSource(2))
	for range 50000 {
		wantValue(t, arr(l[d.Intn(len(l))], l[d.Intn(len(l))]))
	}
}

// ask calls all functions, and is what they answer.
func ask(v, other api.Value, s string) string {
	got, ok := jsonval.Get(v, s)
	return fmt.Sprintf("%s; %d; %q; %q; %t; %t %t; %v %t; %v; %v; %v", told(jsonval.Check(v)), jsonval.Size(v), jsonval.Text(v), jsonval.Quote(s), jsonval.Written(s), jsonval.Equal(v, other), jsonval.Equal(other, v),
		got, ok, jsonval.Str(s), jsonval.List(v, other), jsonval.Obj(mem(s, v), mem(s, other)))
}

// P1: whatever the values are, the calls end, and give the same answer again.
func TestAnyArgumentsEnd(t *testing.T) {
	var l []api.Value
	eachValue([][]api.Value{nil, {null, {Kind: 9}}}, [][]api.Member{nil, {mem("a", null), mem("\xff", num("")), mem("a", yes)}}, func(v api.Value) { l = append(l, v) })
	l = append(l, api.Value{Kind: math.MinInt}, api.Value{Kind: math.MaxInt, Text: "\x00", List: []api.Value{{Kind: math.MinInt}}}, nested(50, api.Value{Kind: -5}, objOf))
	for _, v := range l {
		for _, other := range l[:20] {
			for _, s := range []string{"", "a", "\xff", "-1e5"} {
				if a, b := ask(v, other, s), ask(v, other, s); a != b {
					t.Errorf("%v, %v, %q: %s, then %s", v, other, s, a, b)
				}
			}
		}
	}
	for _, n := range []int{0, -1, math.MinInt, math.MaxInt} {
		if !reflect.DeepEqual(jsonval.Int(n), jsonval.Int(n)) {
			t.Error(n)
		}
	}
}

// P1: long texts, long lists, many members, and values that are nested as deep as anything may be.
func TestLong(t *testing.T) {
	for _, s := range []string{strings.Repeat("1", 1000000), "-0." + strings.Repeat("0", 1000000) + "e-" + strings.Repeat("0", 1000000), strings.Repeat("1", 1000000) + ".", strings.Repeat("-", 1000000)} {
		if got, want := jsonval.Written(s), number.MatchString(s); got != want {
			t.Errorf("Written of %d bytes: %t", len(s), got)
		}
	}
	s := strings.Repeat("\"\\\x01\u00e9", 100000)
	if q := jsonval.Quote(s); len(q) != 2+100000*(2+2+6+2) || jsonval.Text(str(s)) != q {
		t.Errorf("%d bytes", len(q))
	}
	var members, backwards []api.Member
	for i := range 50000 {
		members = append(members, mem(fmt.Sprint(i*7919%50000), num(fmt.Sprint(i))))
	}
	backwards = slices.Clone(members)
	slices.Reverse(backwards)
	v, turned := obj(members...), obj(backwards...)
	wantRead(t, v)
	if !jsonval.Equal(v, turned) || jsonval.Equal(v, arr(v)) || jsonval.Size(arr(v, turned)) != 100003 {
		t.Error("many members")
	}
	wantCheck(t, arr(turned, obj(append(members, mem("9", null))...)), 50002, api.ErrThere)
	wantCheck(t, arr(append(make([]api.Value, 50000), api.Value{Kind: 7})...), 50001, api.ErrKind)
	for _, how := range ways() {
		deep := nested(1<<16, null, how)
		wantFault(t, "deep", jsonval.Check(deep), 32, api.ErrDeep)
		if jsonval.Size(deep) != 1<<16+1 || jsonval.Text(deep) != "" || !jsonval.Equal(deep, deep) {
			t.Error("deep")
		}
		if got, ok := jsonval.Get(obj(mem("x", deep)), "x"); !ok || jsonval.Size(got) != 1<<16+1 {
			t.Error("Get of a deep value")
		}
		if got := jsonval.List(deep, jsonval.Obj(mem("a", deep))); jsonval.Size(got) != 2<<16+4 {
			t.Error("a List of deep values")
		}
	}
}

// withRoom is a copy of a list, with room behind it in which there is what would be seen if it were read.
func withRoom[T any](l []T, behind ...T) []T {
	return append(slices.Clone(l), behind...)[:len(l)]
}

// R4: nothing that is handed in is changed, and nothing behind a list's length is read or written.
func TestMemory(t *testing.T) {
	odd := api.Value{Kind: 9, Text: "a"}
	make := func() (v, bare api.Value) {
		low := api.Value{Kind: api.Array, List: withRoom([]api.Value{null, yes}, odd, odd)}
		members := withRoom([]api.Member{mem("b", low), mem("a", num("1"))}, mem("a", odd), mem("c", odd), mem("b", null))
		return obj(members...), obj(mem("b", arr(null, yes)), mem("a", num("1")))
	}
	v, bare := make()
	for _, s := range []string{"a", "b", "c"} {
		for _, other := range []api.Value{bare, arr(), obj(mem("a", num("1")), mem("b", arr(null, yes)))} {
			if got, want := ask(v, other, s), ask(bare, other, s); got != want {
				t.Errorf("%s, want %s", got, want)
			}
		}
	}
	jsonval.List(v.Members[0].Value.List...)
	jsonval.Obj(v.Members...)
	whole, _ := make()
	if !same(v, whole) || !slices.EqualFunc(v.Members[:5], whole.Members[:5], func(a, b api.Member) bool { return a.Name == b.Name && same(a.Value, b.Value) }) || !slices.EqualFunc(v.Members[0].Value.List[:4], whole.Members[0].Value.List[:4], same) {
		t.Errorf("changed to %v", v.Members[:5])
	}
}

// spoil writes over all lists of a value, and grows them.
func spoil(v api.Value) {
	for i := range v.List {
		spoil(v.List[i])
		v.List[i] = api.Value{Kind: -9, Text: "spoilt"}
	}
	for i := range v.Members {
		spoil(v.Members[i].Value)
		v.Members[i] = mem("spoilt", api.Value{Kind: -9})
	}
	if cap(v.List) > len(v.List) {
		_ = append(v.List, api.Value{Kind: -9})
	}
	if cap(v.Members) > len(v.Members) {
		_ = append(v.Members, mem("spoilt", null))
	}
}

// R4: what is answered may be written over and grown, and what was handed in may be changed behind: nothing else changes by it, no two parts of one answer neither.
func TestAnswersAreNew(t *testing.T) {
	low := arr(num("1"), obj(mem("a", arr(null)), mem("b", str("x"))), arr(arr(yes)))
	handed, members := []api.Value{low, low, str("s")}, []api.Member{mem("a", low), mem("b", low), mem("c", null)}
	v := obj(mem("z", null), mem("low", low), mem("low", arr(low, low)))
	before := fmt.Sprint(handed, members, v)
	get := func(v api.Value, name string) api.Value { x, _ := jsonval.Get(v, name); return x }
	answers := []func() api.Value{
		func() api.Value { return jsonval.List(handed...) }, func() api.Value { return jsonval.List(handed[1:2]...) }, func() api.Value { return jsonval.Obj(members...) }, func() api.Value { return jsonval.Obj(members[:2]...) }, func() api.Value { return get(v, "low") },
		func() api.Value { return jsonval.List(v, v) }, func() api.Value { return jsonval.Obj(mem("a", v), mem("b", v)) }, func() api.Value { return get(jsonval.Obj(mem("x", v)), "x") }, func() api.Value { return jsonval.List(low.List...) }, func() api.Value { return jsonval.Obj(v.Members...) },
	}
	for i, answer := range answers {
		got, want := answer(), fmt.Sprint(answer())
		// Two parts of one answer share nothing.
		for j := range got.List {
			rest := fmt.Sprint(got.List[j+1:])
			spoil(got.List[j])
			if again := fmt.Sprint(got.List[j+1:]); again != rest {
				t.Errorf("%d: %s, then %s", i, rest, again)
			}
		}
		for j := range got.Members {
			rest := fmt.Sprint(got.Members[j+1:])
			spoil(got.Members[j].Value)
			if again := fmt.Sprint(got.Members[j+1:]); again != rest {
				t.Errorf("%d: %s, then %s", i, rest, again)
			}
		}
		spoil(got)
		if again := fmt.Sprint(answer()); again != want || fmt.Sprint(handed, members, v) != before {
			t.Errorf("%d: %s, then %s", i, want, again)
		}
	}
	made := []api.Value{jsonval.List(handed...), jsonval.Obj(members...), get(v, "low"), jsonval.List(v)}
	before = fmt.Sprint(made)
	spoil(arr(handed...))
	spoil(v)
	if again := fmt.Sprint(made); again != before {
		t.Errorf("%s, then %s", before, again)
	}
}

// R4: each error is new.
func TestErrorsAreNew(t *testing.T) {
	for _, values := range wrongs() {
		for _, v := range values {
			var f *api.Fault
			if !errors.As(jsonval.Check(v), &f) {
				t.Fatal("no Fault")
			}
			want := *f
			*f = api.Fault{At: -5, Err: api.ErrFull}
			if e := jsonval.Check(v); !errors.As(e, &f) || *f != want {
				t.Errorf("%s, want %v", told(e), want)
			}
		}
	}
}

// drawnText is a text of what texts are made of.
func drawnText(d *rand.Rand) string {
	parts := []string{"a", "b", "\"", "\\", ",", ":", "[", "]", "{", "}", "\n", "\x00", "\x1f", "\x7f", "\u00e9", "\u2028", "\U0001f600", "n", "u0041", "/", " ", "1"}
	s := ""
	for range d.Intn(4) {
		s += parts[d.Intn(len(parts))]
	}
	return s
}

// drawnNumber is a number as it may be written.
func drawnNumber(d *rand.Rand) string {
	s := []string{"", "-"}[d.Intn(2)] + []string{"0", "1", "90", fmt.Sprint(1 + d.Intn(1000))}[d.Intn(4)]
	if d.Intn(3) == 0 {
		s += fmt.Sprintf(".%0*d", 1+d.Intn(3), d.Intn(100))
	}
	if d.Intn(3) == 0 {
		s += []string{"e", "E", "e+", "E-"}[d.Intn(4)] + fmt.Sprintf("%0*d", 1+d.Intn(3), d.Intn(100))
	}
	return s
}

// drawnValue is a right value of up to so many levels.
func drawnValue(d *rand.Rand, levels int) api.Value {
	kind := d.Intn(7)
	if levels == 1 {
		kind = d.Intn(5)
	}
	v := api.Value{Kind: kind}
	switch kind {
	case api.Number:
		v.Text = drawnNumber(d)
	case api.String:
		v.Text = drawnText(d)
	case api.Array:
		for range d.Intn(4) {
			v.List = append(v.List, drawnValue(d, levels-1))
		}
	case api.Object:
		names := map[string]int{}
		for range d.Intn(5) {
			if s := drawnText(d); names[s] == 0 {
				names[s]++
				v.Members = append(v.Members, mem(s, drawnValue(d, levels-1)))
			}
		}
	}
	return v
}

// changed is a value of which one of its values was changed, so that it may not be right, or not equal, or only turned.
func changed(d *rand.Rand, v api.Value) api.Value {
	v = jsonval.List(v).List[0]
	at := &v
	for {
		switch many := len(at.List) + len(at.Members); {
		case many > 0 && d.Intn(4) > 0 && len(at.List) > 0:
			at = &at.List[d.Intn(len(at.List))]
			continue
		case many > 0 && d.Intn(4) > 0 && len(at.Members) > 0:
			at = &at.Members[d.Intn(len(at.Members))].Value
			continue
		}
		break
	}
	switch d.Intn(8) {
	case 0:
		at.Kind = d.Intn(9) - 1
	case 1:
		at.Text += []string{"0", "\xff", "a", "\u00e9"}[d.Intn(4)]
	case 2:
		at.List = append(at.List, drawnValue(d, 2))
	case 3:
		at.Members = append(at.Members, mem(drawnText(d), drawnValue(d, 2)))
	case 4, 5:
		d.Shuffle(len(at.Members), func(i, j int) { at.Members[i], at.Members[j] = at.Members[j], at.Members[i] })
	case 6:
		d.Shuffle(len(at.List), func(i, j int) { at.List[i], at.List[j] = at.List[j], at.List[i] })
	case 7:
		if len(at.Members) > 0 {
			at.Members[d.Intn(len(at.Members))].Name = []string{drawnText(d), at.Members[0].Name, "\xff"}[d.Intn(3)]
		}
	}
	return v
}

// wantDrawn holds all functions against the chapter's words.
func wantDrawn(t *testing.T, seed int64) {
	t.Helper()
	d := rand.New(rand.NewSource(seed))
	v := drawnValue(d, 1+d.Intn(6))
	wantRead(t, v)
	for _, x := range []api.Value{v, nested(27+d.Intn(5), v, ways()[d.Intn(3)])} {
		other := changed(d, x)
		if d.Intn(2) == 0 {
			other = changed(d, other)
		}
		wantValue(t, x)
		wantValue(t, other)
		_, one := faultOf(x)
		_, two := faultOf(other)
		if one == nil && two == nil {
			wantEqual(t, x, other, textOf(x, true) == textOf(other, true))
		}
		if !same(jsonval.List(other, x), arr(other, x)) || !same(jsonval.Obj(mem("a", other)), obj(mem("a", other))) {
			t.Errorf("%v", other)
		}
	}
	for _, m := range v.Members {
		if got, ok := jsonval.Get(v, m.Name); !ok || !same(got, m.Value) {
			t.Errorf("Get(%v, %q): %v", v, m.Name, got)
		}
	}
	s := drawnNumber(d)
	if at := d.Intn(len(s) + 1); d.Intn(2) == 0 {
		s = s[:at] + []string{"0", "-", ".", "e", "+", "1"}[d.Intn(6)] + s[min(len(s), at+d.Intn(2)):]
	}
	if jsonval.Written(s) != number.MatchString(s) {
		t.Errorf("Written(%q): %t", s, jsonval.Written(s))
	}
}

func TestDrawn(t *testing.T) {
	for seed := range int64(2000) {
		wantDrawn(t, seed)
	}
}

func FuzzDrawn(f *testing.F) {
	for seed := range int64(20) {
		f.Add(seed)
	}
	f.Fuzz(func(t *testing.T, seed int64) { wantDrawn(t, seed) })
}
