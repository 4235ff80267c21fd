package jsonread_test

import (
	"encoding/json"
	"errors"
	"fmt"
	"math"
	"math/rand"
	"regexp"
	"slices"
	"strings"
	"testing"
	"unicode/utf8"

	"eponym/api"
	"eponym/jsonread"
	"eponym/jsonval"
)

// wantFault fails unless the error is just a Fault of that named error at that place.
func wantFault(t *testing.T, what string, e error, place int, named error) {
	t.Helper()
	if named == nil {
		if e != nil {
			t.Errorf("%s: %s, want no error", what, told(e))
		}
		return
	}
	var f *api.Fault
	if !errors.As(e, &f) {
		t.Errorf("%s: %v is no Fault, want %q at %d", what, e, named, place)
		return
	}
	if f.At != place || !errors.Is(e, named) {
		t.Errorf("%s: %q at %d, want %q at %d", what, f.Err, f.At, named, place)
	}
}

// told is an error as a text.
func told(e error) string {
	var f *api.Fault
	if errors.As(e, &f) {
		return fmt.Sprintf("%v at %d", f.Err, f.At)
	}
	return fmt.Sprint(e)
}

// num is a number as it is written.
func num(s string) api.Value { return api.Value{Kind: api.Number, Text: s} }

// str is a string.
func str(s string) api.Value { return api.Value{Kind: api.String, Text: s} }

// arr is an array.
func arr(l ...api.Value) api.Value { return api.Value{Kind: api.Array, List: l} }

// obj is an object.
func obj(l ...api.Member) api.Value { return api.Value{Kind: api.Object, Members: l} }

// mem is a member.
func mem(name string, v api.Value) api.Member { return api.Member{Name: name, Value: v} }

// null, no and yes are the values that have nothing.
var null, no, yes = api.Value{}, api.Value{Kind: api.False}, api.Value{Kind: api.True}

// same tells whether two values are the same, a nil list as one without elements.
func same(a, b api.Value) bool {
	return a.Kind == b.Kind && a.Text == b.Text && slices.EqualFunc(a.List, b.List, same) &&
		slices.EqualFunc(a.Members, b.Members, func(a, b api.Member) bool { return a.Name == b.Name && same(a.Value, b.Value) })
}

// isZero tells whether a value has nothing, not even lists without elements.
func isZero(v api.Value) bool {
	return same(v, null) && v.List == nil && v.Members == nil
}

// readBack is the value that a text is of, as the library reads it.
func readBack(t *testing.T, s string) api.Value {
	t.Helper()
	d := json.NewDecoder(strings.NewReader(s))
	d.UseNumber()
	return readNext(t, d)
}

// readNext is the value that comes next.
func readNext(t *testing.T, d *json.Decoder) api.Value {
	t.Helper()
	token, e := d.Token()
	if e != nil {
		t.Fatal(e)
	}
	switch x := token.(type) {
	case nil:
		return null
	case bool:
		if x {
			return yes
		}
		return no
	case json.Number:
		return num(x.String())
	case string:
		return str(x)
	}
	v := arr()
	if token == json.Delim('{') {
		v = obj()
	}
	for d.More() {
		if v.Kind == api.Object {
			name := readNext(t, d).Text
			v.Members = append(v.Members, mem(name, readNext(t, d)))
			continue
		}
		v.List = append(v.List, readNext(t, d))
	}
	d.Token()
	return v
}

// walk is who reads a text by the chapter's words: no function calls itself, what is open is kept in a list, and what is wanted by its name.
type walk struct {
	s      string
	at     int
	named  error // the fault that was found, if there is one, at its place
	place  int
	inForm bool // that is one of layer 1's
	open   []opened
	wanted string
	v      api.Value // the value, when nothing is open any more
}

// opened is an array or object whose closing bracket wasn't read.
type opened struct {
	v    api.Value
	name string
}

// What tokens are, and what may still become one.
var (
	number    = regexp.MustCompile(`\A-?(?:0|[1-9][0-9]*)(?:\.[0-9]+)?(?:[eE][+-]?[0-9]+)?\z`)
	plainRune = regexp.MustCompile(`\A(?:[\x20\x21\x23-\x5b\x5d-\x7f]|\\["\\/bfnrt]|\\u[dD][89abAB][0-9a-fA-F]{2}\\u[dD][c-fC-F][0-9a-fA-F]{2}|\\u(?:[0-9a-ce-fA-CE-F][0-9a-fA-F]|[dD][0-7])[0-9a-fA-F]{2})`)
	loneHalf  = regexp.MustCompile(`\A\\u[dD][89a-fA-F][0-9a-fA-F]{2}`)
	someEsc   = regexp.MustCompile(`\A\\(?:u[0-9a-fA-F]{0,3})?`)
	spaceHere = regexp.MustCompile(`\A[\x09\x0a\x0d\x20]*`)
)

// found notes a fault.
func (w *walk) found(place int, named error) {
	w.place, w.named = place, named
}

// missing notes that something else was wanted at a place, or something at all.
func (w *walk) missing(place int) {
	if w.found(place, api.ErrByte); place == len(w.s) {
		w.named = api.ErrEnd
	}
}

// ranAhead passes by a token of which so many bytes are as wanted.
func (w *walk) ranAhead(many int, whole bool) {
	if w.at += many; !whole {
		w.missing(w.at)
	}
}

// word passes by a word.
func (w *walk) word(is string) {
	many := 0
	for many < len(is) && strings.HasPrefix(w.s[w.at:], is[:many+1]) {
		many++
	}
	w.ranAhead(many, many == len(is))
}

// number passes by a number: as many bytes as are one, or are one with a 0 behind them.
func (w *walk) number() string {
	from, many := w.at, 0
	for rest := w.s[from:]; many < len(rest) && (number.MatchString(rest[:many+1]) || number.MatchString(rest[:many+1]+"0")); {
		many++
	}
	w.ranAhead(many, number.MatchString(w.s[from:from+many]))
	return w.s[from:w.at]
}

// text passes by a string behind its first ", rune by rune.
func (w *walk) text() string {
	from := w.at
	for w.at++; w.named == nil; {
		rest := w.s[w.at:]
		switch {
		case strings.HasPrefix(rest, `"`):
			w.at++
			var s string
			if e := json.Unmarshal([]byte(w.s[from:w.at]), &s); e != nil {
				panic(e)
			}
			return s
		case plainRune.MatchString(rest):
			w.at += len(plainRune.FindString(rest))
		case loneHalf.MatchString(rest):
			w.found(w.at, api.ErrRange)
		case someEsc.MatchString(rest):
			w.missing(w.at + len(someEsc.FindString(rest)))
		case rest == "" || rest[0] < 0x80:
			w.missing(w.at)
		case !utf8.FullRuneInString(rest):
			w.found(w.at, api.ErrEnd)
			w.inForm = true
		default:
			r, width := utf8.DecodeRuneInString(rest)
			if w.at += width; r == utf8.RuneError && width == 1 {
				w.found(w.at-1, api.ErrByte)
				w.inForm = true
			}
		}
	}
	return ""
}

// put puts a value where it stands.
func (w *walk) put(v api.Value) {
	w.wanted = "behind"
	if len(w.open) == 0 {
		w.v = v
		return
	}
	top := &w.open[len(w.open)-1]
	if top.v.Kind == api.Object {
		top.v.Members = append(top.v.Members, mem(top.name, v))
		return
	}
	top.v.List = append(top.v.List, v)
}

// value passes by a value, or by the bracket that opens it.
func (w *walk) value(c byte) {
	kind := map[byte]int{'n': api.Null, 'f': api.False, 't': api.True, '"': api.String, '[': api.Array, '{': api.Object}
	if !strings.ContainsRune(`nft"[{-0123456789`, rune(c)) {
		w.missing(w.at)
		return
	}
	if len(w.open)+1 > 32 {
		w.found(w.at, api.ErrDeep)
		return
	}
	v := api.Value{Kind: kind[c]}
	switch c {
	case 'n', 'f', 't':
		w.word(map[byte]string{'n': "null", 'f': "false", 't': "true"}[c])
	case '"':
		v.Text = w.text()
	case '[', '{':
		w.at++
		w.wanted = map[byte]string{'[': "value or ]", '{': "name or }"}[c]
		w.open = append(w.open, opened{v: v})
		return
	default:
		v = num(w.number())
	}
	w.put(v)
}

// name passes by a name.
func (w *walk) name(c byte) {
	if c != '"' {
		w.missing(w.at)
		return
	}
	from, top := w.at, &w.open[len(w.open)-1]
	top.name, w.wanted = w.text(), "colon"
	if w.named == nil && slices.ContainsFunc(top.v.Members, func(m api.Member) bool { return m.Name == top.name }) {
		w.found(from, api.ErrThere)
	}
}

// step passes by what stands next, which isn't space.
func (w *walk) step() {
	if w.at == len(w.s) {
		w.missing(w.at)
		return
	}
	c, closing := w.s[w.at], byte(0)
	if last := len(w.open) - 1; last >= 0 {
		closing = map[int]byte{api.Array: ']', api.Object: '}'}[w.open[last].v.Kind]
	}
	switch {
	case c == closing && slices.Contains([]string{"behind", "value or ]", "name or }"}, w.wanted):
		w.at++
		v := w.open[len(w.open)-1].v
		w.open = w.open[:len(w.open)-1]
		w.put(v)
	case strings.HasPrefix(w.wanted, "value"):
		w.value(c)
	case strings.HasPrefix(w.wanted, "name"):
		w.name(c)
	case w.wanted == "colon" && c == ':':
		w.at++
		w.wanted = "value"
	case w.wanted == "behind" && c == ',':
		w.at++
		w.wanted = map[byte]string{']': "value", '}': "name"}[closing]
	default:
		w.missing(w.at)
	}
}

// oneOf is what One is to answer at a place within a text, by the chapter's words.
func oneOf(s string, at int) *walk {
	w := &walk{s: s, at: at, wanted: "value"}
	for w.step(); w.named == nil && len(w.open) > 0; w.step() {
		w.at += len(spaceHere.FindString(s[w.at:]))
	}
	return w
}

// strOf is what Str is to answer at a place within a text.
func strOf(s string, at int) *walk {
	w := &walk{s: s, at: at}
	if !strings.HasPrefix(s[at:], `"`) {
		w.missing(at)
		return w
	}
	w.v = str(w.text())
	return w
}

// readOf is what Read is to answer of a text that isn't too long.
func readOf(s string) *walk {
	w := oneOf(s, len(spaceHere.FindString(s)))
	if w.named != nil {
		return w
	}
	w.at += len(spaceHere.FindString(s[w.at:]))
	if w.at < len(s) {
		w.missing(w.at)
	}
	return w
}

// wantRead fails unless Read answers of a text what the chapter's words do. P13.3: what is read is right, and read again from its text.
func wantRead(t *testing.T, s string) {
	t.Helper()
	w := readOf(s)
	v, e := jsonread.Read(s)
	what := fmt.Sprintf("Read(%.300q)", s)
	wantFault(t, what, e, w.place, w.named)
	if w.named != nil {
		if !isZero(v) {
			t.Errorf("%s: %v beside an error", what, v)
		}
		if named := w.named; !w.inForm && (named == api.ErrEnd || named == api.ErrByte) && json.Valid([]byte(s)) {
			t.Errorf("%s: by the tests' own words %v at %d, but the library reads it", what, named, w.place)
		}
		return
	}
	if !same(v, w.v) {
		t.Errorf("%s: %v, want %v", what, v, w.v)
	}
	if back := readBack(t, s); !json.Valid([]byte(s)) || !same(v, back) {
		t.Errorf("%s: %v, but the library reads %v", what, v, back)
	}
	if e := jsonval.Check(v); e != nil {
		t.Errorf("%s: %v isn't right: %s", what, v, told(e))
	}
	if again, e := jsonread.Read(jsonval.Text(v)); e != nil || !same(again, v) {
		t.Errorf("%s: %v, and from its text %v, %s", what, v, again, told(e))
	}
}

// wantPlaces fails unless One, Str and Space answer of a text what the chapter's words do, at each place.
func wantPlaces(t *testing.T, s string) {
	t.Helper()
	for at := range len(s) + 1 {
		wantOne(t, s, at)
		wantStr(t, s, at)
		if got, want := jsonread.Space(s, at), at+len(spaceHere.FindString(s[at:])); got != want {
			t.Errorf("Space(%.300q, %d): %d, want %d", s, at, got, want)
		}
	}
}

// wantOne fails unless One answers at a place within a text what the chapter's words do.
func wantOne(t *testing.T, s string, at int) {
	t.Helper()
	w := oneOf(s, at)
	v, end, e := jsonread.One(s, at)
	what := fmt.Sprintf("One(%.300q, %d)", s, at)
	wantFault(t, what, e, w.place, w.named)
	if w.named != nil {
		if !isZero(v) || end != 0 {
			t.Errorf("%s: %v, %d beside an error", what, v, end)
		}
		return
	}
	if !same(v, w.v) || end != w.at {
		t.Errorf("%s: %v, %d, want %v, %d", what, v, end, w.v, w.at)
	}
	if e := jsonval.Check(v); e != nil {
		t.Errorf("%s: %v isn't right: %s", what, v, told(e))
	}
}

// wantStr fails unless Str answers at a place within a text what the chapter's words do.
func wantStr(t *testing.T, s string, at int) {
	t.Helper()
	w := strOf(s, at)
	text, end, e := jsonread.Str(s, at)
	what := fmt.Sprintf("Str(%.300q, %d)", s, at)
	wantFault(t, what, e, w.place, w.named)
	if w.named != nil {
		if text != "" || end != 0 {
			t.Errorf("%s: %q, %d beside an error", what, text, end)
		}
		return
	}
	if text != w.v.Text || end != w.at || !utf8.ValidString(text) {
		t.Errorf("%s: %q, %d, want %q, %d", what, text, end, w.v.Text, w.at)
	}
}

// wantValue fails unless Read, and One behind the space ahead, answer that value, by the tests' own words too.
func wantValue(t *testing.T, s string, want api.Value) {
	t.Helper()
	if w := readOf(s); w.named != nil || !same(w.v, want) {
		t.Errorf("%.300q: by the tests' own words %v, %v at %d, want %v", s, w.v, w.named, w.place, want)
	}
	if v, e := jsonread.Read(s); e != nil || !same(v, want) {
		t.Errorf("Read(%.300q): %v, %s, want %v", s, v, told(e), want)
	}
	wantRead(t, s)
	wantOne(t, s, len(spaceHere.FindString(s)))
}

// wantWrong fails unless Read tells that fault, alone and with space around it, and One too, also behind other bytes, by the tests' own words too.
func wantWrong(t *testing.T, s string, place int, named error) {
	t.Helper()
	if w := readOf(s); w.named != named || w.place != place {
		t.Errorf("%.300q: by the tests' own words %v at %d, want %v at %d", s, w.named, w.place, named, place)
	}
	_, e := jsonread.Read(s)
	wantFault(t, fmt.Sprintf("Read(%.300q)", s), e, place, named)
	for _, ahead := range []string{"", " ", "\r\n\t"} {
		wantRead(t, ahead+s)
	}
	for _, ahead := range []string{"", " ", "x", "\"", "[", "\xff"} {
		wantOne(t, ahead+s, len(ahead)+len(spaceHere.FindString(s)))
	}
}

// fault is a text that isn't read, and why.
type fault struct {
	s     string
	place int
	named error
}

// wantWrongs fails unless each text is refused so.
func wantWrongs(t *testing.T, l []fault) {
	t.Helper()
	for _, f := range l {
		wantWrong(t, f.s, f.place, f.named)
	}
}

// telling are all texts of up to so many of these parts.
func telling(most int, parts ...string) []string {
	l := []string{""}
	for from := 0; most > 0; most-- {
		to := len(l)
		for ; from < to; from++ {
			for _, part := range parts {
				l = append(l, l[from]+part)
			}
		}
	}
	return l
}

// The chapter's examples.
func TestExamples(t *testing.T) {
	wantValue(t, `[1, "\u00e9"]`, arr(num("1"), str("\u00e9")))
	wantWrong(t, "[1,]", 3, api.ErrByte)
	wantWrong(t, "[01]", 2, api.ErrByte)
}

// P13.1: no text at all, and space alone.
func TestReadOfNothing(t *testing.T) {
	for _, s := range telling(4, " ", "\t", "\n", "\r") {
		wantWrong(t, s, len(s), api.ErrEnd)
	}
	for _, s := range []string{"\x00", "\x08", "\x0b", "\x0c", "\x0e", "\x1f", "!", "\x7f", "\x80", "\x85", "\xa0", "\xff", "\u00a0", "\u2028", "\ufeff", "\u0085", "\u3000", "/", "//", "/**/1", "#"} {
		wantWrong(t, s, 0, api.ErrByte)
		wantWrong(t, " "+s+" ", 1, api.ErrByte)
		wantWrong(t, "1"+s, 1, api.ErrByte)
		wantWrong(t, "[ "+s+"]", 2, api.ErrByte)
		wantWrong(t, "["+s+"1]", 1, api.ErrByte)
		wantWrong(t, "[1"+s+"]", 2, api.ErrByte)
		wantWrong(t, "[1,"+s+"2]", 3, api.ErrByte)
		wantWrong(t, "{"+s+"}", 1, api.ErrByte)
		wantWrong(t, `{"a"`+s+":1}", 4, api.ErrByte)
		wantWrong(t, `{"a":`+s+"1}", 5, api.ErrByte)
		wantWrong(t, `{"a":1`+s+"}", 6, api.ErrByte)
		wantWrong(t, `{"a":1,`+s+`"b":1}`, 7, api.ErrByte)
		wantWrong(t, "[]"+s, 2, api.ErrByte)
	}
}

// P13.1: the four bytes of space, alone and several, ahead of and behind each thing.
func TestReadOfSpace(t *testing.T) {
	things := []string{"{", `"a"`, ":", "[", "1", ",", "null", ",", "[", "]", ",", "{", "}", "]", ",", `"b"`, ":", `" \t "`, "}"}
	want := obj(mem("a", arr(num("1"), null, arr(), obj())), mem("b", str(" \t ")))
	wantValue(t, strings.Join(things, ""), want)
	for _, space := range []string{" ", "\t", "\n", "\r", "\r\n", " \t\n\r", "          ", "\t\t \t", strings.Repeat("\n", 1000)} {
		wantValue(t, strings.Join(things, space), want)
		wantValue(t, space+strings.Join(things, space)+space, want)
		for i := range len(things) + 1 {
			wantValue(t, strings.Join(things[:i], "")+space+strings.Join(things[i:], ""), want)
		}
		for _, word := range []string{"null", "true", "false", "12", "-1.5e+7"} {
			for i := 1; i < len(word); i++ {
				s := word[:i] + space + word[i:]
				if w := readOf(s); w.named != api.ErrByte {
					t.Errorf("%q: %v", s, w.named)
				}
				wantRead(t, s)
				wantRead(t, "["+s+"]")
			}
		}
	}
	// Within a string, space is what it is, or isn't wanted.
	wantValue(t, ` " a " `, str(" a "))
	for _, c := range []string{"\t", "\n", "\r"} {
		wantWrong(t, `" `+c+`"`, 2, api.ErrByte)
		wantWrong(t, `{"`+c+`":1}`, 2, api.ErrByte)
	}
}

// P13.1: something behind the value.
func TestReadOfMore(t *testing.T) {
	for _, s := range []string{"null", "true", "false", "1", "-0.5e7", `""`, `"a"`, "[]", "[1]", "{}", `{"a":1}`} {
		for _, more := range []string{"null", "1", `"`, `""`, "]", "}", ",", ":", "[", "{", "\x00", "\xff", "/", "x", "\u00e9"} {
			if more != "1" || s[len(s)-1] > '9' || s[len(s)-1] < '0' {
				wantWrong(t, s+more, len(s), api.ErrByte)
			}
			wantWrong(t, s+" "+more, len(s)+1, api.ErrByte)
			wantWrong(t, s+"\r\n "+more+" ", len(s)+3, api.ErrByte)
			wantWrong(t, s+"\n"+more+"\xff"+more, len(s)+1, api.ErrByte)
		}
	}
}

// P13.1: each word whole, cut short at each byte, and with each wrong byte at each place.
func TestReadOfWords(t *testing.T) {
	for word, want := range map[string]api.Value{"null": null, "false": no, "true": yes} {
		wantValue(t, word, want)
		for i := range len(word) {
			wantWrong(t, word[:i], i, api.ErrEnd)
			wantWrong(t, "["+word[:i], i+1, api.ErrEnd)
			wantWrong(t, `{"a":`+word[:i], i+5, api.ErrEnd)
			for c := range 256 {
				wrong := word[:i] + string([]byte{byte(c)}) + word[i+1:]
				wantRead(t, wrong)
				if i > 0 && byte(c) != word[i] {
					wantWrong(t, wrong, i, api.ErrByte)
					wantWrong(t, "["+word[:i]+string([]byte{byte(c)}), i+1, api.ErrByte)
				}
			}
		}
		for _, s := range []string{strings.ToUpper(word), strings.ToUpper(word[:1]) + word[1:]} {
			wantWrong(t, s, 0, api.ErrByte)
		}
		wantWrong(t, word+word, len(word), api.ErrByte)
		wantWrong(t, word+"s", len(word), api.ErrByte)
		wantWrong(t, "-"+word, 1, api.ErrByte)
	}
	wantWrongs(t, []fault{{"nan", 1, api.ErrByte}, {"NaN", 0, api.ErrByte}, {"Infinity", 0, api.ErrByte}, {"-Infinity", 1, api.ErrByte}, {"undefined", 0, api.ErrByte}, {"nil", 1, api.ErrByte}, {"t", 1, api.ErrEnd}, {"trfalse", 2, api.ErrByte}, {"'a'", 0, api.ErrByte}})
}

// P13.1: each part of a number there and not, with all that may stand behind it.
func TestReadOfNumbers(t *testing.T) {
	for _, sign := range []string{"", "-"} {
		for _, whole := range []string{"0", "1", "9", "10", "1234567890", "100000000000000000000000000"} {
			for _, part := range []string{"", ".0", ".5", ".00", ".0123456789", ".9"} {
				for _, power := range []string{"", "e0", "E0", "e+0", "e-0", "E+9", "E-00", "e007", "e1234567890"} {
					s := sign + whole + part + power
					wantValue(t, s, num(s))
					wantValue(t, " "+s+"\n", num(s))
					wantValue(t, "["+s+"]", arr(num(s)))
					wantValue(t, "["+s+","+s+"\t,"+s+" ]", arr(num(s), num(s), num(s)))
					wantValue(t, `{"a":`+s+`,"b":`+s+"}", obj(mem("a", num(s)), mem("b", num(s))))
					for _, behind := range []string{",", "]", "}", ":", "x", "-", "+", "\"", "\x00", "\xff", "/", "[", " 1"} {
						if v, end, e := jsonread.One("x"+s+behind, 1); e != nil || end != len(s)+1 || !same(v, num(s)) {
							t.Errorf("One(%q): %v, %d, %s", s+behind, v, end, told(e))
						}
					}
				}
			}
		}
	}
}

// P13.1: numbers with faults, at the byte.
func TestReadOfWrongNumbers(t *testing.T) {
	wantWrongs(t, []fault{
		{"-", 1, api.ErrEnd}, {"- ", 1, api.ErrByte}, {"--", 1, api.ErrByte}, {"--1", 1, api.ErrByte}, {"-+1", 1, api.ErrByte}, {"-x", 1, api.ErrByte}, {"-.5", 1, api.ErrByte}, {"-e", 1, api.ErrByte}, {"-]", 1, api.ErrByte}, {"-\xff", 1, api.ErrByte}, {"[-]", 2, api.ErrByte}, {"[-,1]", 2, api.ErrByte}, {"[-", 2, api.ErrEnd},
		{"+1", 0, api.ErrByte}, {".5", 0, api.ErrByte}, {"e5", 0, api.ErrByte}, {"E", 0, api.ErrByte}, {"+", 0, api.ErrByte}, {".", 0, api.ErrByte}, {"/", 0, api.ErrByte}, {":", 0, api.ErrByte},
		{"00", 1, api.ErrByte}, {"01", 1, api.ErrByte}, {"09", 1, api.ErrByte}, {"-00", 2, api.ErrByte}, {"-01", 2, api.ErrByte}, {"000", 1, api.ErrByte}, {"01.5", 1, api.ErrByte}, {"[00]", 2, api.ErrByte}, {"[1,-02]", 5, api.ErrByte}, {`{"a":07}`, 6, api.ErrByte},
		{"0x1", 1, api.ErrByte}, {"1_0", 1, api.ErrByte}, {"1a", 1, api.ErrByte}, {"1-", 1, api.ErrByte}, {"1+1", 1, api.ErrByte}, {"1/", 1, api.ErrByte}, {"1:", 1, api.ErrByte}, {"10,", 2, api.ErrByte},
		{"1.", 2, api.ErrEnd}, {"0.", 2, api.ErrEnd}, {"-0.", 3, api.ErrEnd}, {"1. ", 2, api.ErrByte}, {"1.x", 2, api.ErrByte}, {"1..5", 2, api.ErrByte}, {"1.e5", 2, api.ErrByte}, {"1.-5", 2, api.ErrByte}, {"1.+5", 2, api.ErrByte}, {"[1.]", 3, api.ErrByte}, {"[1.,2]", 3, api.ErrByte}, {"1./", 2, api.ErrByte}, {"1.:", 2, api.ErrByte},
		{"1.5.5", 3, api.ErrByte}, {"1.5-", 3, api.ErrByte}, {"1.5a", 3, api.ErrByte}, {"1.0+", 3, api.ErrByte}, {"0.0.", 3, api.ErrByte},
		{"1e", 2, api.ErrEnd}, {"1E", 2, api.ErrEnd}, {"0e", 2, api.ErrEnd}, {"1.5e", 4, api.ErrEnd}, {"1e+", 3, api.ErrEnd}, {"1E-", 3, api.ErrEnd}, {"1e ", 2, api.ErrByte}, {"1ex", 2, api.ErrByte}, {"1e.5", 2, api.ErrByte}, {"1ee5", 2, api.ErrByte}, {"1eE5", 2, api.ErrByte}, {"1e+ 5", 3, api.ErrByte}, {"1e+-5", 3, api.ErrByte}, {"1e--5", 3, api.ErrByte}, {"1e++5", 3, api.ErrByte}, {"1e+.", 3, api.ErrByte},
		{"[1e]", 3, api.ErrByte}, {"[1e+]", 4, api.ErrByte}, {"1e5.5", 3, api.ErrByte}, {"1e5e5", 3, api.ErrByte}, {"1e5-", 3, api.ErrByte}, {"1e5+", 3, api.ErrByte}, {"1e05E", 4, api.ErrByte}, {"1e/", 2, api.ErrByte}, {"1e:", 2, api.ErrByte}, {"-e5", 1, api.ErrByte}, {"1.\u0661", 2, api.ErrByte}, {"\u0661", 0, api.ErrByte}, {"1\u00b2", 1, api.ErrByte}, {"1.e", 2, api.ErrByte},
	})
	for _, s := range append(telling(5, "0", "1", "-", "+", ".", "e", "E", "]"), telling(8, "0", "9", ".", "e")...) {
		wantRead(t, s)
		wantOne(t, s, 0)
		if len(s) < 4 {
			wantRead(t, "["+s+"]")
			wantPlaces(t, s)
		}
	}
}

// P13.1: strings of each byte, and of each byte behind a backslash.
func TestReadOfStrings(t *testing.T) {
	escapes := map[byte]string{'"': `"`, '\\': `\`, '/': "/", 'b': "\x08", 'f': "\x0c", 'n': "\x0a", 'r': "\x0d", 't': "\x09"}
	for i := range 256 {
		c := string([]byte{byte(i)})
		switch {
		case i < 0x20:
			wantWrong(t, `"`+c+`"`, 1, api.ErrByte)
			wantWrong(t, `"a`+c, 2, api.ErrByte)
			wantWrong(t, `{"a":1,"`+c+`":2}`, 8, api.ErrByte)
		case i < 0x80 && c != `"` && c != `\`:
			wantValue(t, `"`+c+`"`, str(c))
			wantValue(t, `"a`+c+`b"`, str("a"+c+"b"))
			wantValue(t, `{"`+c+`":"`+c+`"}`, obj(mem(c, str(c))))
		case i >= 0x80:
			wantWrong(t, `"`+c+`"`, 1, api.ErrByte)
			wantWrong(t, `"a`+c+"x", 2, api.ErrByte)
		}
		meant, there := escapes[byte(i)]
		switch {
		case there:
			wantValue(t, `"\`+c+`"`, str(meant))
			wantValue(t, `"a\`+c+`b\`+c+`"`, str("a"+meant+"b"+meant))
			wantValue(t, `{"\`+c+`":1}`, obj(mem(meant, num("1"))))
			wantWrong(t, `"\`+c, 3, api.ErrEnd)
		case c != "u":
			wantWrong(t, `"\`+c+`"`, 2, api.ErrByte)
			wantWrong(t, `"\`+c, 2, api.ErrByte)
			wantWrong(t, `{"ab\`+c+`":1}`, 5, api.ErrByte)
		}
	}
	wantValue(t, `""`, str(""))
	wantValue(t, `"\"\\\/\b\f\n\r\t"`, str("\"\\/\b\f\n\r\t"))
	wantValue(t, `"\\n\\\\u0041\\"`, str(`\n\\u0041\`))
	wantWrongs(t, []fault{{`"`, 1, api.ErrEnd}, {`"a`, 2, api.ErrEnd}, {`"\`, 2, api.ErrEnd}, {`"\"`, 3, api.ErrEnd}, {`"\\\"`, 5, api.ErrEnd}, {`"a"b"`, 3, api.ErrByte}, {`"""`, 2, api.ErrByte}, {`"\0"`, 2, api.ErrByte}, {`"\x41"`, 2, api.ErrByte}, {`"\U0041"`, 2, api.ErrByte}, {`"\'"`, 2, api.ErrByte}, {"\"\\\n\"", 2, api.ErrByte}, {`\"a"`, 0, api.ErrByte}})
}

// P13.1: escapes of each rune of four digits, small and capital.
func TestReadOfCodes(t *testing.T) {
	for code := range 0x10000 {
		half := code >= 0xd800 && code <= 0xdfff
		for _, s := range []string{fmt.Sprintf(`"\u%04x"`, code), fmt.Sprintf(`"\u%04X"`, code)} {
			text, end, e := jsonread.Str(s, 0)
			if half {
				wantFault(t, s, e, 1, api.ErrRange)
				continue
			}
			if e != nil || end != 8 || text != string(rune(code)) {
				t.Errorf("%s: %q, %d, %s", s, text, end, told(e))
			}
		}
	}
	for s, want := range map[string]string{
		`"\u0000"`: "\x00", `"\u0022"`: `"`, `"\u005c"`: `\`, `"\u002F"`: "/", `"\u000a"`: "\n", `"\u001f"`: "\x1f", `"\u007f"`: "\x7f", `"\u0080"`: "\u0080", `"\u07ff"`: "\u07ff", `"\u0800"`: "\u0800", `"\ud7ff"`: "\ud7ff", `"\uD7FF"`: "\ud7ff", `"\ue000"`: "\ue000", `"\uE000"`: "\ue000", `"\ufffd"`: "\ufffd", `"\uffff"`: "\uffff",
		`"\uaBcD"`: "\uabcd", `"\u00e9x"`: "\u00e9x", `"\u00411"`: "A1", `"\u0041\u0042"`: "AB", `"a\u00e9\n\u4e2d\"b"`: "a\u00e9\n\u4e2d\"b", `"\\u0041"`: `\u0041`,
	} {
		wantValue(t, s, str(want))
		wantValue(t, "{"+s+":"+s+"}", obj(mem(want, str(want))))
	}
}

// P13.1: escapes with fewer than four digits, and with what is none.
func TestReadOfWrongCodes(t *testing.T) {
	for _, digits := range []string{"0041", "abcd", "ABCD", "d800", "dfff", "9Af0"} {
		for many := range 4 {
			wantWrong(t, `"\u`+digits[:many], 3+many, api.ErrEnd)
			wantWrong(t, `"\u`+digits[:many]+`"`, 3+many, api.ErrByte)
			wantWrong(t, `{"a\u`+digits[:many]+`":1}`, 5+many, api.ErrByte)
			for c := range 256 {
				s := string([]byte{byte(c)})
				if strings.Contains("0123456789abcdefABCDEF", s) {
					continue
				}
				wantWrong(t, `"\u`+digits[:many]+s+digits[many:]+`"`, 3+many, api.ErrByte)
				if many == 3 {
					wantWrong(t, `"\u`+digits[:many]+s, 6, api.ErrByte)
				}
			}
		}
	}
	wantWrongs(t, []fault{{`"\u`, 3, api.ErrEnd}, {`"\u"`, 3, api.ErrByte}, {`"\u+041"`, 3, api.ErrByte}, {`"\u-041"`, 3, api.ErrByte}, {`"\u 041"`, 3, api.ErrByte}, {`"\u0x41"`, 4, api.ErrByte}, {`"\u{41}"`, 3, api.ErrByte}, {`"\u12\n3"`, 5, api.ErrByte}, {`"\uu0041"`, 3, api.ErrByte}, {`"\u00\u0041"`, 5, api.ErrByte}, {"\"\\u00\u00e91\"", 5, api.ErrByte}})
}

// P13.1: pairs of escapes.
func TestReadOfPairs(t *testing.T) {
	for _, first := range []int{0xd800, 0xd801, 0xd83d, 0xda00, 0xdbfe, 0xdbff} {
		for second := 0xdc00; second <= 0xdfff; second++ {
			want := string(rune(0x10000 + 0x400*(first-0xd800) + second - 0xdc00))
			for _, how := range []string{`"\u%04x\u%04x"`, `"\u%04X\u%04x"`, `"\u%04X\u%04X"`} {
				s := fmt.Sprintf(how, first, second)
				if text, end, e := jsonread.Str(s, 0); e != nil || end != 14 || text != want {
					t.Errorf("%s: %q, %d, %s", s, text, end, told(e))
				}
			}
		}
	}
	for first := 0xd800; first <= 0xdbff; first++ {
		s := fmt.Sprintf(`"\u%04x\udc37"`, first)
		if text, _, e := jsonread.Str(s, 0); e != nil || text != string(rune(0x10037+0x400*(first-0xd800))) {
			t.Errorf("%s: %q, %s", s, text, told(e))
		}
	}
	for s, want := range map[string]string{
		`"\ud800\udc00"`: "\U00010000", `"\udbff\udfff"`: "\U0010ffff", `"\uD83D\uDE00"`: "\U0001f600", `"\ud83d\ude00\ud83d\ude01"`: "\U0001f600\U0001f601", `"a\ud800\udc00b"`: "a\U00010000b", `"\ud7ff\ud800\udc00\ue000"`: "\ud7ff\U00010000\ue000", `"\ud83d\ude00\n\u0041"`: "\U0001f600\nA", `"\\ud800"`: `\ud800`,
	} {
		wantValue(t, s, str(want))
		wantValue(t, "{"+s+":1}", obj(mem(want, num("1"))))
	}
}

// P13.1: escapes of half a pair, with all that may stand behind or ahead of them.
func TestReadOfHalves(t *testing.T) {
	for _, first := range []string{"d800", "dbff", "D83D", "dAfF"} {
		for _, behind := range []string{
			"", `"`, "a", `a"`, "\\", `\"`, `\\`, `\n`, `\n"`, `\u`, `\ud`, `\udc`, `\udc0`, `\udc0"`, `\udc0g`, `\udcg0`, `\ug`, `\u0041`, `\u0041"`, `\ud800`, `\ud800\udc00`, `\udbff`, `\ud7ff`, `\ue000`, `\ue000"`, `\U`, `\x`, ` \udc00`, `a\udc00`, `\n\udc00`, `\u0041\udc00"`, `/\udc00`, `udc00`, `\\udc00`,
			"\u00e9", "\xff", "\xed\xb0\x80", "\x00", "\n", "\U0001f600", `\UDC00`, `\u dc00`, `"\udc00`, `\uDBFF\uDFFF"`,
		} {
			wantWrong(t, `"\u`+first+behind, 1, api.ErrRange)
			wantWrong(t, `"ab\n\u`+first+behind, 5, api.ErrRange)
			wantWrong(t, `"\ud83d\ude00\u`+first+behind, 13, api.ErrRange)
			wantWrong(t, `[1,{"a":1,"\u`+first+behind, 11, api.ErrRange)
		}
	}
	for _, second := range []string{"dc00", "dfff", "DE00", "dCFf"} {
		for _, behind := range []string{"", `"`, "a", `\`, `\ud800`, `\ud800"`, `\udc00`, `\x`, "\xff", "\x00", `\u0041"`} {
			wantWrong(t, `"\u`+second+behind, 1, api.ErrRange)
			wantWrong(t, `"a\u0041\u`+second+behind, 8, api.ErrRange)
			wantWrong(t, `"\ud800\udc00\u`+second+behind, 13, api.ErrRange)
			wantWrong(t, `"\\\u`+second+behind, 3, api.ErrRange)
			wantWrong(t, `"\ud7ff\u`+second+behind, 7, api.ErrRange)
			wantWrong(t, `"\ue000\u`+second+behind, 7, api.ErrRange)
		}
	}
	for _, rest := range telling(4, `\ud800`, `\udc00`, `\udbff`, `\uDFFF`, `\u0041`, `\`, "u", "d", `"`, "\u00e9") {
		wantStr(t, `"`+rest, 0)
		wantStr(t, `"`+rest+`"`, 0)
	}
}

// P13.1: forms of each length in strings, and each of layer 1's errors, at its place.
func TestReadOfForms(t *testing.T) {
	for _, s := range []string{"\u0080", "\u00e9", "\u07ff", "\u0800", "\u4e2d", "\ud7ff", "\ue000", "\ufeff", "\ufffd", "\uffff", "\U00010000", "\U0001f600", "\U0010ffff", "\u2028\u2029", "e\u0301"} {
		wantValue(t, `"`+s+`"`, str(s))
		wantValue(t, `"a`+s+`b\n`+s+s+`"`, str("a"+s+"b\n"+s+s))
		wantValue(t, "{ \""+s+"\" : [\""+s+"\"] }", obj(mem(s, arr(str(s)))))
	}
	ends := []string{"\xc3", "\xdf", "\xe0", "\xe0\xa0", "\xe2", "\xe2\x82", "\xed", "\xed\x9f", "\xef", "\xef\xbf", "\xf0", "\xf0\x90", "\xf0\x9f\x98", "\xf4", "\xf4\x8f", "\xf4\x8f\xbf"}
	wrong := []string{"\x80", "\xbf", "\xc0\x80", "\xc1\xbf", "\xc0", "\xe0\x80", "\xe0\x9f\xbf", "\xed\xa0", "\xed\xa0\x80", "\xed\xbf\xbf", "\xf0\x80", "\xf0\x8f\xbf\xbf", "\xf4\x90", "\xf4\x90\x80\x80", "\xf5", "\xf8\x80", "\xfe", "\xff"}
	for _, s := range ends {
		wantWrong(t, `"`+s, 1, api.ErrEnd)
		wantWrong(t, `"a\n`+s, 4, api.ErrEnd)
		wantWrong(t, `{"a":1,"`+s, 8, api.ErrEnd)
		for _, behind := range []string{`"`, "a", `\`, "\xc3\xa9", "\xff", "\x00"} {
			wrong = append(wrong, s+behind)
		}
	}
	for _, s := range wrong {
		for _, behind := range []string{"", `"`, `a"`, `\x`, "\n", "\u00e9\""} {
			wantWrong(t, `"`+s+behind, 1, api.ErrByte)
			wantWrong(t, "[\"a\u00e9"+s+behind, 5, api.ErrByte)
			wantWrong(t, `{"ab`+s+behind, 4, api.ErrByte)
		}
	}
	// Outside of strings no such byte is wanted, whatever it begins.
	for _, s := range []string{"\u00e9", "\xff", "\xc3", "\xe2\x82", "\x80"} {
		wantWrongs(t, []fault{{s, 0, api.ErrByte}, {"[" + s, 1, api.ErrByte}, {"{" + s, 1, api.ErrByte}, {"nul" + s, 3, api.ErrByte}, {"1" + s, 1, api.ErrByte}, {"-" + s, 1, api.ErrByte}, {`"\` + s, 2, api.ErrByte}, {`"\u` + s, 3, api.ErrByte}})
	}
	for _, rest := range telling(3, "\x7f", "\x80", "\x8f", "\x90", "\x9f", "\xa0", "\xbf", "\xc1", "\xc2", "\xdf", "\xe0", "\xed", "\xef", "\xf0", "\xf4", "\xf5", "\xff") {
		wantStr(t, `"`+rest, 0)
		wantStr(t, `"`+rest+`"`, 0)
	}
}

// P13.1: arrays of none, one and several, and their faults.
func TestReadOfArrays(t *testing.T) {
	for s, want := range map[string]api.Value{
		"[]": arr(), "[ ]": arr(), "[null]": arr(null), "[1,2]": arr(num("1"), num("2")), "[[]]": arr(arr()), "[[],[]]": arr(arr(), arr()), "[{}]": arr(obj()), `["a","b","c"]`: arr(str("a"), str("b"), str("c")), "[null,true,false,0,\"\",[],{}]": arr(null, yes, no, num("0"), str(""), arr(), obj()),
		"[[[1],2],3]": arr(arr(arr(num("1")), num("2")), num("3")), "[1,[2,[3]]]": arr(num("1"), arr(num("2"), arr(num("3")))), "[null,null]": arr(null, null), `["[",",","]"]`: arr(str("["), str(","), str("]")), "[{\"a\":[]},{\"a\":{}}]": arr(obj(mem("a", arr())), obj(mem("a", obj()))),
	} {
		wantValue(t, s, want)
		wantValue(t, "["+s+"]", arr(want))
		wantValue(t, `{"x":`+s+"}", obj(mem("x", want)))
	}
	wantWrongs(t, []fault{
		{"[", 1, api.ErrEnd}, {"[1", 2, api.ErrEnd}, {"[1,", 3, api.ErrEnd}, {"[[]", 3, api.ErrEnd}, {"[1 ", 3, api.ErrEnd}, {"[1, ", 4, api.ErrEnd}, {"[ ", 2, api.ErrEnd}, {"]", 0, api.ErrByte}, {"[]]", 2, api.ErrByte}, {"[[]]]", 4, api.ErrByte},
		{"[,]", 1, api.ErrByte}, {"[,1]", 1, api.ErrByte}, {"[1,]", 3, api.ErrByte}, {"[1 , ]", 5, api.ErrByte}, {"[1,,2]", 3, api.ErrByte}, {"[1,2,]", 5, api.ErrByte}, {"[1 2]", 3, api.ErrByte}, {"[1\n2]", 3, api.ErrByte}, {`["a""b"]`, 4, api.ErrByte}, {"[[][]]", 3, api.ErrByte}, {"[null true]", 6, api.ErrByte}, {"[nulltrue]", 5, api.ErrByte},
		{"[}", 1, api.ErrByte}, {"[1}", 2, api.ErrByte}, {"[1,}", 3, api.ErrByte}, {"[[1}]", 3, api.ErrByte}, {"[1)", 2, api.ErrByte}, {"[1;2]", 2, api.ErrByte}, {"[1:2]", 2, api.ErrByte}, {`["a":1]`, 4, api.ErrByte}, {"[:]", 1, api.ErrByte}, {"(1)", 0, api.ErrByte}, {"[1]2", 3, api.ErrByte}, {"[1]]", 3, api.ErrByte}, {"1]", 1, api.ErrByte}, {"1,2", 1, api.ErrByte}, {",", 0, api.ErrByte}, {",1", 0, api.ErrByte}, {":", 0, api.ErrByte},
	})
}

// P13.1: objects of none, one and several, and their faults.
func TestReadOfObjects(t *testing.T) {
	for s, want := range map[string]api.Value{
		"{}": obj(), "{ \n}": obj(), `{"a":1}`: obj(mem("a", num("1"))), `{"":""}`: obj(mem("", str(""))), `{"b":1,"a":2}`: obj(mem("b", num("1")), mem("a", num("2"))), `{"a":{"a":{"a":{}}}}`: obj(mem("a", obj(mem("a", obj(mem("a", obj())))))), `{"a":null,"b":[],"c":{}}`: obj(mem("a", null), mem("b", arr()), mem("c", obj())),
		`{"\"":1,"\\":2,":":3,",":4,"}":5}`: obj(mem(`"`, num("1")), mem(`\`, num("2")), mem(":", num("3")), mem(",", num("4")), mem("}", num("5"))), `{"A":1,"a":2,"aa":3,"":4," ":5}`: obj(mem("A", num("1")), mem("a", num("2")), mem("aa", num("3")), mem("", num("4")), mem(" ", num("5"))),
	} {
		wantValue(t, s, want)
		wantValue(t, "["+s+"]", arr(want))
		wantValue(t, `{"x":`+s+`,"y":`+s+"}", obj(mem("x", want), mem("y", want)))
	}
	wantWrongs(t, []fault{
		{"{", 1, api.ErrEnd}, {"{ ", 2, api.ErrEnd}, {`{"`, 2, api.ErrEnd}, {`{"a`, 3, api.ErrEnd}, {`{"a"`, 4, api.ErrEnd}, {`{"a" `, 5, api.ErrEnd}, {`{"a":`, 5, api.ErrEnd}, {`{"a": `, 6, api.ErrEnd}, {`{"a":1`, 6, api.ErrEnd}, {`{"a":1 `, 7, api.ErrEnd}, {`{"a":1,`, 7, api.ErrEnd}, {`{"a":1, `, 8, api.ErrEnd}, {`{"a":{}`, 7, api.ErrEnd},
		{"}", 0, api.ErrByte}, {"{}}", 2, api.ErrByte}, {"{{}}", 1, api.ErrByte}, {"{[]}", 1, api.ErrByte}, {"{]", 1, api.ErrByte}, {`{"a":1]`, 6, api.ErrByte}, {`{"a"]`, 4, api.ErrByte}, {`{"a":]`, 5, api.ErrByte}, {`{"a":}`, 5, api.ErrByte}, {`{"a":1,]`, 7, api.ErrByte}, {"{)", 1, api.ErrByte},
		{"{,}", 1, api.ErrByte}, {`{,"a":1}`, 1, api.ErrByte}, {`{"a":1,}`, 7, api.ErrByte}, {`{"a":1, }`, 8, api.ErrByte}, {`{"a":1,,"b":2}`, 7, api.ErrByte}, {`{"a":1"b":2}`, 6, api.ErrByte}, {`{"a":1 "b":2}`, 7, api.ErrByte}, {`{"a":1;"b":2}`, 6, api.ErrByte}, {`{"a":1:2}`, 6, api.ErrByte},
		{"{a:1}", 1, api.ErrByte}, {"{1:1}", 1, api.ErrByte}, {"{'a':1}", 1, api.ErrByte}, {"{null:1}", 1, api.ErrByte}, {"{-1:1}", 1, api.ErrByte}, {"{true}", 1, api.ErrByte}, {`{"a":1,b:2}`, 7, api.ErrByte}, {`{"a":1,2:2}`, 7, api.ErrByte}, {"{:1}", 1, api.ErrByte}, {`{"a":1,null}`, 7, api.ErrByte},
		{`{"a"}`, 4, api.ErrByte}, {`{"a",1}`, 4, api.ErrByte}, {`{"a" 1}`, 5, api.ErrByte}, {`{"a"=1}`, 4, api.ErrByte}, {`{"a"1}`, 4, api.ErrByte}, {`{"a""b"}`, 4, api.ErrByte}, {`{"a"::1}`, 5, api.ErrByte}, {`{"a":,"b":1}`, 5, api.ErrByte}, {`{"a": :1}`, 6, api.ErrByte}, {`{"a":1,"b"}`, 10, api.ErrByte}, {`{"a"\n:1}`, 4, api.ErrByte}, {`{"a":1}{`, 7, api.ErrByte},
	})
}

// P13.1: a name that is there twice, at its " the second time.
func TestReadOfNames(t *testing.T) {
	wantWrongs(t, []fault{
		{`{"a":1,"a":2}`, 7, api.ErrThere}, {`{"a":1,"a":1}`, 7, api.ErrThere}, {`{"":1,"":2}`, 6, api.ErrThere}, {`{"a":1,"b":2,"a":3}`, 13, api.ErrThere}, {`{"b":1,"a":2,"c":3,"a":4,"b":5}`, 19, api.ErrThere}, {`{ "a" : 1 , "a" : 2 }`, 12, api.ErrThere}, {`{"a":1,"\u0061":2}`, 7, api.ErrThere}, {`{"\u0061":1,"a":2}`, 12, api.ErrThere},
		{`{"\u00e9":1,"` + "\u00e9" + `":2}`, 12, api.ErrThere}, {`{"\u00e9":1,"\u00E9":2}`, 12, api.ErrThere}, {`{"\ud83d\ude00":1,"` + "\U0001f600" + `":2}`, 18, api.ErrThere}, {`{"\/":1,"/":2}`, 8, api.ErrThere}, {`{"\n":1,"\u000a":2}`, 8, api.ErrThere}, {`{"\"":1,"\u0022":2}`, 8, api.ErrThere}, {`{"\\":1,"\u005C":2}`, 8, api.ErrThere},
		{`[{"a":1},{"b":1,"b":2}]`, 16, api.ErrThere}, {`{"a":{"b":1,"b":2}}`, 12, api.ErrThere}, {`{"a":{"a":1},"a":2}`, 13, api.ErrThere}, {`{"a":{"b":1},"c":{"a":1,"a":1}}`, 24, api.ErrThere}, {`{"a":[{"a":1}],"a":2}`, 15, api.ErrThere}, {`{"x":{"b":0},"b":1,"b":2}`, 19, api.ErrThere},
		// When it was read, ahead of all that is wanted behind it; a fault in it is ahead of that.
		{`{"a":1,"a"`, 7, api.ErrThere}, {`{"a":1,"a"x`, 7, api.ErrThere}, {`{"a":1,"a":x`, 7, api.ErrThere}, {`{"a":1,"a"}`, 7, api.ErrThere}, {`{"a":1,"a`, 9, api.ErrEnd}, {`{"a":1,"a\x"`, 10, api.ErrByte}, {`{"a":1,"a` + "\xff" + `":2}`, 9, api.ErrByte}, {`{"a":1,"a\ud800":2}`, 9, api.ErrRange}, {`{"a":1,a":2}`, 7, api.ErrByte}, {`{"a":x,"a":2}`, 5, api.ErrByte},
	})
	for s, want := range map[string]api.Value{
		`[{"a":1},{"a":1}]`: arr(obj(mem("a", num("1"))), obj(mem("a", num("1")))), `{"a":{"a":1}}`: obj(mem("a", obj(mem("a", num("1"))))), `{"a":{"b":1},"b":{"a":1}}`: obj(mem("a", obj(mem("b", num("1")))), mem("b", obj(mem("a", num("1"))))), `{"a":"a","b":"a"}`: obj(mem("a", str("a")), mem("b", str("a"))),
		`{"a":1,"A":2}`: obj(mem("a", num("1")), mem("A", num("2"))), `{"e\u0301":1,"\u00e9":2}`: obj(mem("e\u0301", num("1")), mem("\u00e9", num("2"))), `{"":1,"\u0000":2," ":3}`: obj(mem("", num("1")), mem("\x00", num("2")), mem(" ", num("3"))), `{"a":[{"b":1},{"b":1}],"b":1}`: obj(mem("a", arr(obj(mem("b", num("1"))), obj(mem("b", num("1"))))), mem("b", num("1"))),
		`{"\\u0061":1,"a":2}`: obj(mem(`\u0061`, num("1")), mem("a", num("2"))), `{"\n":1,"\\n":2}`: obj(mem("\n", num("1")), mem(`\n`, num("2"))), `{"1":1,"01":2,"1.0":3}`: obj(mem("1", num("1")), mem("01", num("2")), mem("1.0", num("3"))),
	} {
		wantValue(t, s, want)
	}
	// Each two of several.
	for i := range 6 {
		for j := range i {
			names := []string{"c", "b", "f", "a", "d", "e"}
			names[i] = names[j]
			s, place := "{", 0
			for k, name := range names {
				if k == i {
					place = len(s)
				}
				s += `"` + name + `":null,`
			}
			wantWrong(t, s+`"y":1}`, place, api.ErrThere)
		}
	}
}

// ways are how a value stands within another one, for each of several levels: what is ahead of it, and behind.
func ways() [][][2]string {
	list, object := [2]string{"[", "]"}, [2]string{`{"a":`, "}"}
	return [][][2]string{{list}, {object}, {list, object}, {object, list}, {{"[1,", ",2]"}}, {{` { "b" : [ ] , "a" : `, ` , "c" : { } } `}, {" [ ", " ] "}}}
}

// nested are what is ahead of and behind a value that stands within so many others.
func nested(levels int, way [][2]string) (ahead, behind string) {
	for i := range levels {
		ahead += way[i%len(way)][0]
		behind = way[i%len(way)][1] + behind
	}
	return ahead, behind
}

// P13.1: level 32 and level 33, of values of each kind, by arrays, by objects, by both.
func TestReadOfLevels(t *testing.T) {
	values := []string{"null", "true", "false", "0", "-1.5", `""`, `"a"`, "[]", "{}", "[ ]"}
	for _, way := range ways() {
		for _, v := range values {
			for levels := range 40 {
				ahead, behind := nested(levels, way)
				if levels < api.MaxDepth {
					wantRead(t, ahead+v+behind)
					if _, e := jsonread.Read(ahead + v + behind); e != nil {
						t.Errorf("%q: %s", ahead+v+behind, told(e))
					}
				}
			}
		}
		ahead, behind := nested(32, way)
		deepest, last := nested(31, way)
		for _, v := range append(values, "[[[", "{\"a\":{", "n", "nul", "nux", "t", "f", "-", "-x", "00", "1.", `"`, "\"\xff\"", `"\x`, `"\ud800"`, "[x", "{x", "[}", strings.Repeat("[", 100)) {
			wantRead(t, ahead+v+behind)
			wantRead(t, ahead+v)
		}
		// A value that doesn't begin isn't too deep, nor does one within an empty array.
		for _, s := range []string{"x", "+", ",", ":", ".", "\xff", "\x00", "N", "'", ""} {
			wantRead(t, deepest+"["+s+"]"+last)
			wantRead(t, deepest+`{"a":`+s)
			wantRead(t, deepest+"["+s)
			wantRead(t, deepest+"["+" \n"+s)
		}
	}
	lists, objects := strings.Repeat("[", 32), strings.Repeat(`{"a":`, 32)
	wantWrongs(t, []fault{
		{lists + "1", 32, api.ErrDeep}, {lists + "[]", 32, api.ErrDeep}, {lists + " {", 33, api.ErrDeep}, {lists + "n", 32, api.ErrDeep}, {lists + "-", 32, api.ErrDeep}, {lists + `"`, 32, api.ErrDeep}, {lists + "tx", 32, api.ErrDeep}, {lists + "f", 32, api.ErrDeep}, {lists + "x", 32, api.ErrByte}, {lists + "}", 32, api.ErrByte}, {lists + ",", 32, api.ErrByte}, {lists, 32, api.ErrEnd}, {lists + " ", 33, api.ErrEnd},
		{objects + "1", 160, api.ErrDeep}, {objects + " []", 161, api.ErrDeep}, {objects + "{}", 160, api.ErrDeep}, {objects + "n", 160, api.ErrDeep}, {objects + `""`, 160, api.ErrDeep}, {objects + "9", 160, api.ErrDeep}, {objects + "}", 160, api.ErrByte}, {objects + "]", 160, api.ErrByte}, {objects, 160, api.ErrEnd},
		{lists[:31] + `{"a":"b"}`, 36, api.ErrDeep}, {lists[:31] + `{"a":`, 36, api.ErrEnd}, {lists[:31] + `{"a"`, 35, api.ErrEnd}, {lists[:31] + `{"a":]`, 36, api.ErrByte}, {lists[:31] + `{x`, 32, api.ErrByte}, {lists[:31] + "1,[2", 34, api.ErrDeep}, {lists[:31] + "[],{},[[", 38, api.ErrDeep}, {lists[:30] + "[1],[{},[],{\"a\":[]}]", 46, api.ErrDeep},
		{strings.Repeat("[", 1000), 32, api.ErrDeep}, {strings.Repeat(`{"":`, 1000), 128, api.ErrDeep}, {"[[" + lists[:30] + strings.Repeat("]", 31) + ", " + lists[:30] + "[[", 32 + 31 + 2 + 31, api.ErrDeep},
	})
	for _, s := range []string{lists + strings.Repeat("]", 32), lists[:31] + "{}" + strings.Repeat("]", 31), lists[:31] + "1,2,3" + strings.Repeat("]", 31), objects[:31*5] + "{}" + strings.Repeat("}", 31), lists[:30] + "[1],[2],{\"a\":3,\"b\":4}" + strings.Repeat("]", 30)} {
		if v, e := jsonread.Read(s); e != nil || jsonval.Text(v) != s {
			t.Errorf("%q: %q, %s", s, jsonval.Text(v), told(e))
		}
		wantRead(t, s)
	}
}

// P13.1: of several faults the first one is told.
func TestReadOfSeveralFaults(t *testing.T) {
	wrong := map[string]fault{
		"byte": {"x", 0, api.ErrByte}, "form": {"\"\xff\"", 1, api.ErrByte}, "range": {`"\ud800"`, 1, api.ErrRange}, "there": {`{"a":1,"a":2}`, 7, api.ErrThere}, "deep": {strings.Repeat("[", 33) + strings.Repeat("]", 33), -1, api.ErrDeep}, "escape": {`"\x"`, 2, api.ErrByte}, "number": {"1.e", 2, api.ErrByte}, "word": {"nulL", 3, api.ErrByte}, "comma": {"[1,]", 3, api.ErrByte}, "colon": {`{"a"}`, 4, api.ErrByte}, "code": {`"\u00g0"`, 5, api.ErrByte},
	}
	for _, first := range wrong {
		for _, second := range wrong {
			for _, ahead := range []string{"[", `{"x":`, "[0,", `[{"a":1},`} {
				place := len(ahead) + first.place
				if first.place < 0 { // It stands a level deeper.
					place = len(ahead) + 31
				}
				wantWrong(t, ahead+first.s+","+second.s, place, first.named)
				wantWrong(t, ahead+first.s, place, first.named)
				wantWrong(t, ahead+first.s+"]\xff", place, first.named)
			}
		}
	}
}

// P13.1: the text's end at each place.
func TestReadOfEnds(t *testing.T) {
	for _, s := range []string{
		` { "a" : [ 1 , -2.5e+3 , null ] , "\u00e9\n\\" : "x" , "" : {} }`, "[true,false,null,0,-0.0E-0]", `"abc\u0041\"\/\b\f\n\r\t"`, "[[[[]]]]", `{"a":{"b":{"c":[{},{"d":[]}]}}}`, "\t\r\n [ ]", "null", "true", "false", `{"a":1,"b":2}`,
	} {
		for end := range len(s) {
			wantWrong(t, s[:end], end, api.ErrEnd)
		}
		wantRead(t, s)
		wantPlaces(t, s)
	}
	// Within a form it is layer 1's ErrEnd, at the form's place; between the halves of a pair the first one has none behind it.
	form := "\"a\u4e2d\U0001f600\""
	for end, want := range []int{0, 1, 2, 2, 2, 5, 5, 5, 5, 9} {
		wantWrong(t, form[:end], want, api.ErrEnd)
	}
	pair := `"a\ud83d\ude00"`
	for end := range len(pair) {
		if end >= 8 && end < 14 {
			wantWrong(t, pair[:end], 2, api.ErrRange)
			continue
		}
		wantWrong(t, pair[:end], end, api.ErrEnd)
	}
}

// P13.1: texts of MaxJson bytes and of more.
func TestReadOfLongTexts(t *testing.T) {
	for _, c := range []struct {
		ahead, fill, behind string
		want                int // how many values
	}{
		{`"`, "a", `"`, 1}, {"", " ", "1", 1}, {"1", "0", "0", 1}, {"[1", ",0", "]", api.MaxJson / 2}, {"[ ", "\n", "]", 1}, {"{}", "\r", "", 1}, {"-0.", "5", "e7", 1}, {"[", "\t", " null ] ", 2}, {`{"a" `, " ", `:[]}`, 2}, {`"`, `\n`, ` "`, 1}, {`"`, "\u00e9", `b"`, 1},
	} {
		many := (api.MaxJson - len(c.ahead) - len(c.behind)) / len(c.fill)
		s := c.ahead + strings.Repeat(c.fill, many) + c.behind
		s += strings.Repeat(" ", api.MaxJson-len(s))
		v, e := jsonread.Read(s)
		if e != nil || jsonval.Size(v) != c.want {
			t.Errorf("%.10q of %d bytes: %d values, %s", s, len(s), jsonval.Size(v), told(e))
		}
		for _, long := range []string{s + " ", "x" + s, c.ahead + c.fill + s} {
			v, e := jsonread.Read(long)
			wantFault(t, fmt.Sprintf("%.10q of %d bytes", long, len(long)), e, 0, api.ErrLong)
			if !isZero(v) {
				t.Errorf("%.10q beside an error", long)
			}
		}
		// P13.2: One is of any length.
		from := jsonread.Space(s, 0)
		if one, end, e := jsonread.One("\xff"+s+"]"+s, from+1); e != nil || !same(one, v) || jsonread.Space(s, end-1) != len(s) {
			t.Errorf("One of %.10q: %d, %s", s, end, told(e))
		}
	}
	for named, s := range map[error]string{api.ErrEnd: strings.Repeat(" ", api.MaxJson), api.ErrByte: strings.Repeat(" ", api.MaxJson-1) + "x"} {
		_, e := jsonread.Read(s)
		place := api.MaxJson
		if named == api.ErrByte {
			place--
		}
		wantFault(t, "space", e, place, named)
		_, e = jsonread.Read(s + " ")
		wantFault(t, "more space", e, 0, api.ErrLong)
	}
	long := strings.Repeat("a", 2*api.MaxJson)
	if text, end, e := jsonread.Str(`"`+long+`",`, 0); e != nil || text != long || end != len(long)+2 {
		t.Errorf("Str: %d bytes, %s", len(text), told(e))
	}
	if end := jsonread.Space(strings.Repeat(" \n", api.MaxJson)+"x", 1); end != 2*api.MaxJson {
		t.Errorf("Space: %d", end)
	}
}

// P13.2: One, Str and Space at each place of texts that have all kinds of things.
func TestPlaces(t *testing.T) {
	for _, s := range []string{
		"", " ", "1", "12 34", ` { "a" : [ 1 , -2.5e3 , null ] , "\u00e9\ud83d\ude00\n" : "x" } `, "[1,]", "[01]", "nulltruefalse", `"\"a\\"`, "\"\u00e9\xff\"", "--1..5ee7", "[[]{}]", " \t\n\r\x0b\x0c\x00 ", `{"a":1,"a":2}`, strings.Repeat("[", 40) + strings.Repeat("]", 40), strings.Repeat(`{"a":`, 34) + "1", "1.5e", `"\ud800\udc00\udc00"`, "\"\xf0\x9f\x98", ",:]}", `""""`,
	} {
		wantPlaces(t, s)
		wantRead(t, s)
	}
	for _, c := range []struct {
		s    string
		at   int
		want api.Value
		end  int
	}{
		{"x12,", 1, num("12"), 3}, {"x12,", 2, num("2"), 3}, {"null", 0, null, 4}, {"nullx", 0, null, 4}, {"[]]", 0, arr(), 2}, {"[[]]", 1, arr(), 3}, {"1 ", 0, num("1"), 1}, {"[1] ", 0, arr(num("1")), 3}, {`"a"b"`, 0, str("a"), 3}, {`"a"b"`, 2, str("b"), 5}, {`{"a":1}}`, 0, obj(mem("a", num("1"))), 7}, {`{"a":1}}`, 5, num("1"), 6},
		{"00", 0, num("0"), 1}, {"01", 0, num("0"), 1}, {"-01", 0, num("-0"), 2}, {"1.5.5", 0, num("1.5"), 3}, {"1e5e5", 0, num("1e5"), 3}, {"1-1", 0, num("1"), 1}, {"truefalse", 4, no, 9}, {"\xff\xfe1\xff", 2, num("1"), 3}, {"]]1", 2, num("1"), 3}, {strings.Repeat("[", 40) + "1", 40, num("1"), 41},
	} {
		if v, end, e := jsonread.One(c.s, c.at); e != nil || !same(v, c.want) || end != c.end {
			t.Errorf("One(%q, %d): %v, %d, %s", c.s, c.at, v, end, told(e))
		}
	}
	for _, c := range []struct {
		s         string
		at        int
		want      string
		end       int
		place     int
		otherwise error
	}{
		{`"a\tb"c`, 0, "a\tb", 6, 0, nil}, {`x""`, 1, "", 3, 0, nil}, {`"" `, 0, "", 2, 0, nil}, {`""""`, 2, "", 4, 0, nil}, {`"\u0041"`, 0, "A", 8, 0, nil}, {`"a"`, 3, "", 0, 3, api.ErrEnd}, {"", 0, "", 0, 0, api.ErrEnd}, {` "a"`, 0, "", 0, 0, api.ErrByte}, {"1", 0, "", 0, 0, api.ErrByte}, {"null", 0, "", 0, 0, api.ErrByte}, {`["a"]`, 0, "", 0, 0, api.ErrByte}, {`'a'`, 0, "", 0, 0, api.ErrByte},
		{`"a`, 0, "", 0, 2, api.ErrEnd}, {`x"\x"`, 1, "", 0, 3, api.ErrByte}, {`x"\udc00"`, 1, "", 0, 2, api.ErrRange}, {"x\"a\xff\"", 1, "", 0, 3, api.ErrByte}, {"x\"a\xc3", 1, "", 0, 3, api.ErrEnd}, {"\xff", 0, "", 0, 0, api.ErrByte}, {"\xc3", 0, "", 0, 0, api.ErrByte},
	} {
		text, end, e := jsonread.Str(c.s, c.at)
		wantFault(t, fmt.Sprintf("Str(%q, %d)", c.s, c.at), e, c.place, c.otherwise)
		if text != c.want || end != c.end {
			t.Errorf("Str(%q, %d): %q, %d", c.s, c.at, text, end)
		}
	}
}

// P13.2: One reads no space ahead, and leaves what stands behind.
func TestOneWithSpace(t *testing.T) {
	for _, v := range []string{"null", "1", `"a"`, "[]", "{}", "[ 1 , 2 ]"} {
		for _, space := range []string{" ", "\t", "\n", "\r", "  "} {
			for _, behind := range []string{"", space, space + "x", "x", "]", "}", ",", space + v, "\xff", "\x00"} {
				got, end, e := jsonread.One(space+v+behind, len(space))
				if e != nil || end != len(space)+len(v) || jsonval.Text(got) != strings.ReplaceAll(v, " ", "") {
					t.Errorf("One(%q): %v, %d, %s", space+v+behind, got, end, told(e))
				}
				_, _, e = jsonread.One(space+v+behind, 0)
				wantFault(t, space+v+behind, e, 0, api.ErrByte)
			}
		}
	}
}

// outside are places that are outside of a text.
func outside(s string) []int {
	return []int{-1, -2, -100, math.MinInt, math.MinInt + 1, len(s) + 1, len(s) + 2, len(s) + 100, math.MaxInt, math.MaxInt - 1, -1 << 32, 1 << 32}
}

// P13.2: places outside of a text, and just within it.
func TestPlacesOutside(t *testing.T) {
	for _, s := range []string{"", " ", "1", `"a"`, "  ", "null", "\xff", strings.Repeat(" ", 1000)} {
		for _, at := range outside(s) {
			what := fmt.Sprintf("%.20q at %d", s, at)
			v, end, e := jsonread.One(s, at)
			wantFault(t, "One of "+what, e, at, api.ErrRange)
			text, textEnd, textE := jsonread.Str(s, at)
			wantFault(t, "Str of "+what, textE, at, api.ErrRange)
			if !isZero(v) || end != 0 || text != "" || textEnd != 0 {
				t.Errorf("%s: %v, %d, %q, %d", what, v, end, text, textEnd)
			}
			if got := jsonread.Space(s, at); got != at {
				t.Errorf("Space of %s: %d", what, got)
			}
		}
		_, _, e := jsonread.One(s, len(s))
		wantFault(t, "One at the end", e, len(s), api.ErrEnd)
		_, _, e = jsonread.Str(s, len(s))
		wantFault(t, "Str at the end", e, len(s), api.ErrEnd)
		if got := jsonread.Space(s, len(s)); got != len(s) {
			t.Errorf("Space at the end: %d", got)
		}
	}
}

// P13.2: Space of each byte, alone and between.
func TestSpace(t *testing.T) {
	for i := range 256 {
		c, is := string([]byte{byte(i)}), i == 9 || i == 0xa || i == 0xd || i == 0x20
		for _, s := range []string{c, c + "x", c + c, "x" + c + "x", " " + c + " x", c + " ", "\t" + c + "\n" + c + "\r" + c + " "} {
			for at := range len(s) + 1 {
				want := at
				for want < len(s) && (is && s[want] == byte(i) || strings.Contains("\t\n\r ", s[want:want+1])) {
					want++
				}
				if got := jsonread.Space(s, at); got != want {
					t.Errorf("Space(%q, %d): %d, want %d", s, at, got, want)
				}
			}
		}
	}
	for _, c := range []struct {
		s        string
		at, want int
	}{{"a \n b", 1, 4}, {"", 0, 0}, {"", 5, 5}, {"", -5, -5}, {"a", 0, 0}, {"a", 1, 1}, {"   ", 1, 3}, {"\u00a0", 0, 0}, {" \x00 ", 0, 1}, {"\t\n\r x", 0, 4}, {"\v\f", 0, 0}} {
		if got := jsonread.Space(c.s, c.at); got != c.want {
			t.Errorf("Space(%q, %d): %d, want %d", c.s, c.at, got, c.want)
		}
	}
}

// P13.1, P13.2: all short texts of telling bytes and parts.
func TestAllShortTexts(t *testing.T) {
	for _, texts := range [][]string{telling(6, "[", "]", "{", "}", ",", `"`, ":"), telling(5, "[", "1", "]", " ", ",", "-", "0", "."), telling(7, "{", `""`, ":", ",", "}", "0"), telling(6, `{"a"`, ":1", `,"a"`, `,"b"`, "}", "{", " "), telling(6, `"`, `\`, "u", "0", "n", "\n")} {
		for _, s := range texts {
			wantRead(t, s)
			wantOne(t, s, 0)
		}
	}
	for _, s := range telling(4, "[", "{", `"a"`, ":", ",", "]", "}", "null", "\n", "x") {
		wantPlaces(t, s)
	}
}

// P13.1, P13.2: telling texts of which a byte is another one, is missing, or has one more ahead.
func TestTextsThatAreOneByteOff(t *testing.T) {
	for _, s := range []string{`{"a":[1,-2.5e+3,null,true,false,"\u00e9\n"],"\ud83d\ude00b":{}}`, " [ 0 , { \"\u00e9\" : \"\U0001f600\" } ] "} {
		for at := range len(s) {
			wantRead(t, s[:at]+s[at+1:])
			for c := range 256 {
				one := string([]byte{byte(c)})
				wantRead(t, s[:at]+one+s[at+1:])
				wantRead(t, s[:at]+one+s[at:])
			}
		}
	}
}

// spaced is a right value's text with space put in, handed out anew for each place.
func spaced(v api.Value, space func() string) string {
	var parts []string
	for _, x := range v.List {
		parts = append(parts, spaced(x, space))
	}
	for _, m := range v.Members {
		parts = append(parts, space()+jsonval.Quote(m.Name)+space()+":"+space()+spaced(m.Value, space))
	}
	text := ""
	for i, part := range parts {
		if i > 0 {
			text += space() + "," + space()
		}
		text += part
	}
	switch v.Kind {
	case api.Array:
		text = "[" + space() + text + space() + "]"
	case api.Object:
		text = "{" + space() + text + space() + "}"
	default:
		text = jsonval.Text(v)
	}
	return space() + text + space()
}

// wantRound fails unless a right value is read from its text, with space put in and without.
func wantRound(t *testing.T, v api.Value) {
	t.Helper()
	turn := 0
	for _, space := range []func() string{
		func() string { return "" }, func() string { return " " }, func() string { return "\t" }, func() string { return "\n" }, func() string { return "\r" }, func() string { return "\r\n \t\t" },
		func() string { turn++; return []string{"", " ", "\n\t", "\r"}[turn*turn/3%4] },
	} {
		s := spaced(v, space)
		if got, e := jsonread.Read(s); e != nil || !same(got, v) {
			t.Errorf("%.300q: %v, %s, want %v", s, got, told(e), v)
		}
		from := jsonread.Space(s, 0)
		if got, end, e := jsonread.One(s, from); e != nil || !same(got, v) || jsonread.Space(s, end) != len(s) {
			t.Errorf("One of %.300q: %v, %s, want %v", s, got, told(e), v)
		}
	}
	if v.Kind == api.String {
		q := jsonval.Text(v)
		if text, end, e := jsonread.Str("x"+q+"y", 1); e != nil || text != v.Text || end != len(q)+1 {
			t.Errorf("Str of %q: %q, %d, %s", q, text, end, told(e))
		}
	}
}

// P13.3: values of each kind, alone and within one another, are read from their texts.
func TestRounds(t *testing.T) {
	values := []api.Value{null, no, yes, arr(), obj()}
	for _, s := range []string{"0", "-0", "1", "-12.50", "1e5", "1E+05", "0.0e-0", "123456789012345678901234567890"} {
		values = append(values, num(s))
	}
	for _, s := range []string{"", "a", "\"", "\\", "\\\"", "\\u0041", "/", "\x00", "\x1f", "\x7f", "\b\t\n\f\r", "\u00e9", "\u2028", "\ufffd", "\ud7ff\ue000", "\U00010000\U0010ffff", "null", "[1,2]", " ", ",", ":", "a b"} {
		values = append(values, str(s))
	}
	for _, v := range values {
		wantRound(t, v)
		wantRound(t, arr(v))
		wantRound(t, obj(mem("a", v)))
		wantRound(t, arr(arr(v), obj(mem("", v), mem("b", arr(v, null)))))
		for _, other := range values {
			wantRound(t, arr(v, other, v))
			wantRound(t, obj(mem("\\\"\n", v), mem("\u00e9", other)))
		}
		for _, levels := range []int{29, 31} {
			deep := v
			for i := range levels {
				deep = []api.Value{arr(deep), obj(mem("x", deep))}[i%2]
			}
			wantRound(t, deep)
		}
	}
	for r := rune(0); r <= utf8.MaxRune; r += 1 + r/200 {
		if utf8.ValidRune(r) {
			wantRound(t, str(string(r)))
		}
	}
}

// ask calls all functions, and is what they answer.
func ask(s string, at int) string {
	v, e := jsonread.Read(s)
	one, oneEnd, oneE := jsonread.One(s, at)
	text, textEnd, textE := jsonread.Str(s, at)
	return fmt.Sprintf("%v %s; %v %d %s; %q %d %s; %d", v, told(e), one, oneEnd, told(oneE), text, textEnd, told(textE), jsonread.Space(s, at))
}

// P1: whatever the texts and the places are, the calls end, and give the same answer again.
func TestAnyArgumentsEnd(t *testing.T) {
	texts := []string{"", "1", " ", "[1,2", `{"a":`, `"\ud8`, "\xff\xfe", "\x00\x00", strings.Repeat("[", 50), strings.Repeat(`{"":`, 50), strings.Repeat(`"\`, 50), strings.Repeat("-", 50), strings.Repeat("\u00e9", 50), "nul", "[[]]", `{"a":{"a":[]}}`}
	for _, s := range texts {
		for _, at := range append(outside(s), 0, 1, len(s)/2, len(s)-1, len(s)) {
			if a, b := ask(s, at), ask(s, at); a != b {
				t.Errorf("%q, %d: %s, then %s", s, at, a, b)
			}
		}
	}
	d := rand.New(rand.NewSource(3))
	for range 20000 {
		b := make([]byte, d.Intn(12))
		d.Read(b)
		ask(string(b), d.Intn(20)-4)
		ask(`["`+string(b), d.Intn(20)-4)
	}
}

// P1: texts that are as long as anything may be here, of many things of one kind.
func TestLong(t *testing.T) {
	for _, c := range []struct {
		s     string
		place int
		named error
	}{
		{strings.Repeat("[", api.MaxJson), 32, api.ErrDeep}, {strings.Repeat(`{"a":`, 800000), 160, api.ErrDeep}, {"[" + strings.Repeat("[],", 1000000), 3000001, api.ErrEnd}, {"[" + strings.Repeat("{},", 1000000) + "]", 3000001, api.ErrByte}, {`"` + strings.Repeat(`\u0041`, 600000), 3600001, api.ErrEnd}, {`"` + strings.Repeat(`\ud83d\ude00`, 300000) + `\ud83d"`, 3600001, api.ErrRange},
		{"1" + strings.Repeat("0", 4000000) + "x", 4000001, api.ErrByte}, {"1." + strings.Repeat("0", 4000000) + ".", 4000002, api.ErrByte}, {"1e" + strings.Repeat("0", 4000000) + "]", 4000002, api.ErrByte}, {"\"" + strings.Repeat("\u4e2d", 1000000) + "\xe4\xb8", 3000001, api.ErrEnd}, {"\"" + strings.Repeat("a", 4000000) + "\n", 4000001, api.ErrByte},
	} {
		_, e := jsonread.Read(c.s)
		wantFault(t, fmt.Sprintf("%.20q of %d bytes", c.s, len(c.s)), e, c.place, c.named)
	}
	// Many names, of which the last one may be there already.
	var b strings.Builder
	b.WriteString("{")
	for i := range 200000 {
		fmt.Fprintf(&b, `"%d":[],`, i)
	}
	s := b.String()
	v, e := jsonread.Read(s + `"a":1}`)
	if e != nil || len(v.Members) != 200001 || v.Members[1234].Name != "1234" || !same(v.Members[200000].Value, num("1")) {
		t.Errorf("%d members, %s", len(v.Members), told(e))
	}
	_, e = jsonread.Read(s + `"777":1}`)
	wantFault(t, "many names", e, len(s), api.ErrThere)
	if v, end, e := jsonread.One("x"+s+`"":1}x`, 1); e != nil || end != len(s)+6 || jsonval.Size(v) != 200002 {
		t.Errorf("One: %d, %s", end, told(e))
	}
}

// spoil writes over all lists of a value, and grows them.
func spoil(v api.Value) {
	for i := range v.List {
		spoil(v.List[i])
		v.List[i] = api.Value{Kind: -9, Text: "spoilt"}
	}
	for i := range v.Members {
		spoil(v.Members[i].Value)
		v.Members[i] = mem("spoilt", api.Value{Kind: -9})
	}
	_ = append(v.List, api.Value{Kind: -9})
	_ = append(v.Members, mem("spoilt", api.Value{Kind: -9}))
}

// R4: what is answered may be written over and grown, and nothing else changes by it, no two parts of one answer neither.
func TestAnswersAreNew(t *testing.T) {
	s := `[[1,2,3],[1,2,3],{"a":[1,2,3],"b":{"c":[[],[],[0]],"d":{}}},[{"a":1},{"a":1}],[[[1],[2],[3]]],"x",[]]`
	read := func() api.Value { v, _ := jsonread.Read(s); return v }
	one := func() api.Value { v, _, _ := jsonread.One(s, 0); return v }
	for _, answer := range []func() api.Value{read, one} {
		want := fmt.Sprint(answer())
		got := answer()
		for i := range got.List {
			rest := fmt.Sprint(got.List[i+1:])
			spoil(got.List[i])
			if again := fmt.Sprint(got.List[i+1:]); again != rest {
				t.Errorf("%s, then %s", rest, again)
			}
		}
		for _, m := range []int{0, 1} {
			v := answer().List[2]
			rest := fmt.Sprint(v.Members[1-m])
			spoil(v.Members[m].Value)
			if again := fmt.Sprint(v.Members[1-m]); again != rest {
				t.Errorf("%s, then %s", rest, again)
			}
		}
		spoil(got)
		if again := fmt.Sprint(answer()); again != want {
			t.Errorf("%s, then %s", want, again)
		}
	}
}

// R4: each error is new.
func TestErrorsAreNew(t *testing.T) {
	for _, s := range []string{"", "x", "\"\xff\"", "\"\xc3", `"\ud800"`, `{"a":1,"a":2}`, strings.Repeat("[", 33), "[1,]", strings.Repeat(" ", api.MaxJson+1)} {
		for _, call := range []func() error{func() error { _, e := jsonread.Read(s); return e }, func() error { _, _, e := jsonread.One(s, 0); return e }, func() error { _, _, e := jsonread.Str(s[:min(len(s), 3)], 0); return e }, func() error { _, _, e := jsonread.One(s, -1); return e }} {
			var f *api.Fault
			if !errors.As(call(), &f) {
				continue
			}
			want := *f
			*f = api.Fault{At: -5, Err: api.ErrFull}
			if e := call(); !errors.As(e, &f) || *f != want {
				t.Errorf("%s, want %v", told(e), want)
			}
		}
	}
}

// drawnText is a text of what texts are made of.
func drawnText(d *rand.Rand) string {
	parts := []string{"a", "b", "\"", "\\", ",", ":", "[", "]", "{", "}", "\n", "\x00", "\x1f", "\x7f", "\u00e9", "\u2028", "\U0001f600", "n", "u0041", "/", " ", "1", "\ud7ff", "\ue000", "\U0010ffff"}
	s := ""
	for range d.Intn(4) {
		s += parts[d.Intn(len(parts))]
	}
	return s
}

// drawnNumber is a number as it may be written.
func drawnNumber(d *rand.Rand) string {
	s := []string{"", "-"}[d.Intn(2)] + []string{"0", "1", "90", fmt.Sprint(1 + d.Intn(1000))}[d.Intn(4)]
	if d.Intn(3) == 0 {
		s += fmt.Sprintf(".%0*d", 1+d.Intn(3), d.Intn(100))
	}
	if d.Intn(3) == 0 {
		s += []string{"e", "E", "e+", "E-"}[d.Intn(4)] + fmt.Sprintf("%0*d", 1+d.Intn(3), d.Intn(100))
	}
	return s
}

// drawnValue is a right value of up to so many levels.
func drawnValue(d *rand.Rand, levels int) api.Value {
	kind := d.Intn(7)
	if levels == 1 {
		kind = d.Intn(5)
	}
	v := api.Value{Kind: kind}
	switch kind {
	case api.Number:
		v.Text = drawnNumber(d)
	case api.String:
		v.Text = drawnText(d)
	case api.Array:
		for range d.Intn(4) {
			v.List = append(v.List, drawnValue(d, levels-1))
		}
	case api.Object:
		names := map[string]int{}
		for range d.Intn(5) {
			if s := drawnText(d); names[s] == 0 {
				names[s]++
				v.Members = append(v.Members, mem(s, drawnValue(d, levels-1)))
			}
		}
	}
	return v
}

// drawnQuote is a text as it may be written in a string, each of its runes in one of its ways.
func drawnQuote(d *rand.Rand, s string) string {
	short := map[rune]string{'"': `\"`, '\\': `\\`, '/': `\/`, '\b': `\b`, '\f': `\f`, '\n': `\n`, '\r': `\r`, '\t': `\t`}
	q := `"`
	for _, r := range s {
		hex := []string{`\u%04x`, `\u%04X`}[d.Intn(2)]
		switch as, there := short[r]; {
		case d.Intn(3) == 0 && r > 0xffff:
			q += fmt.Sprintf(hex, 0xd800+(r-0x10000)>>10) + fmt.Sprintf(hex, 0xdc00+(r-0x10000)&0x3ff)
		case d.Intn(3) == 0 && r <= 0xffff:
			q += fmt.Sprintf(hex, r)
		case there:
			q += as
		case r < 0x20:
			q += fmt.Sprintf(hex, r)
		default:
			q += string(r)
		}
	}
	return q + `"`
}

// drawnJson is a text of a right value, in one of its ways.
func drawnJson(d *rand.Rand, v api.Value) string {
	space := func() string { return []string{"", "", "", " ", "\n", "\t", "\r\n", "   "}[d.Intn(8)] }
	var parts []string
	for _, x := range v.List {
		parts = append(parts, drawnJson(d, x))
	}
	for _, m := range v.Members {
		parts = append(parts, space()+drawnQuote(d, m.Name)+space()+":"+drawnJson(d, m.Value))
	}
	between := strings.Join(parts, ",")
	if between == "" {
		between = space()
	}
	return space() + []string{"null", "false", "true", v.Text, drawnQuote(d, v.Text), "[" + between + "]", "{" + between + "}"}[v.Kind] + space()
}

// damaged is a text of which some bytes were changed, put in, left out, or turned.
func damaged(d *rand.Rand, s string) string {
	parts := []string{"[", "]", "{", "}", ",", ":", `"`, `\`, "0", "1", "-", ".", "e", "n", "null", " ", "\n", "\x00", "\xff", "\xc3", "\u00e9", `\u00`, `\ud800`, `\udc00`, `"a":1,`, "u", "d", "x"}
	for range 1 + d.Intn(2) {
		at := d.Intn(len(s) + 1)
		to := min(len(s), at+d.Intn(4))
		switch d.Intn(5) {
		case 0:
			s = s[:at] + s[to:]
		case 1:
			s = s[:at] + parts[d.Intn(len(parts))] + s[at:]
		case 2:
			s = s[:at] + parts[d.Intn(len(parts))] + s[to:]
		case 3:
			s = s[:at]
		case 4:
			s = s[:to] + s[at:]
		}
	}
	return s
}

// wantDrawn holds all functions against the chapter's words.
func wantDrawn(t *testing.T, seed int64) {
	t.Helper()
	d := rand.New(rand.NewSource(seed))
	v := drawnValue(d, 1+d.Intn(6))
	wantRound(t, v)
	s := drawnJson(d, v)
	wantValue(t, s, v)
	if d.Intn(4) == 0 {
		way := ways()[d.Intn(len(ways()))]
		ahead, behind := nested(24+d.Intn(9), way)
		wantRead(t, ahead+s+behind)
		wantRead(t, damaged(d, ahead+s+behind))
	}
	for range 10 {
		wrong := damaged(d, s)
		wantRead(t, wrong)
		at := d.Intn(len(wrong) + 1)
		wantOne(t, wrong, at)
		wantStr(t, wrong, at)
		if q := strings.IndexByte(wrong, '"'); q >= 0 {
			wantStr(t, wrong, q)
		}
	}
}

func TestDrawn(t *testing.T) {
	for seed := range int64(2000) {
		wantDrawn(t, seed)
	}
}

func FuzzDrawn(f *testing.F) {
	for seed := range int64(20) {
		f.Add(seed)
	}
	f.Fuzz(func(t *testing.T, seed int64) { wantDrawn(t, seed) })
}

func FuzzRead(f *testing.F) {
	for _, s := range []string{"", "1", `{"a":[1,-2.5e+3,null,true,false,"\u00e9\n"],"\ud83d\ude00b":{}}`, "[\"\u00e9\"]", `"\ud800"`} {
		f.Add(s, 0)
	}
	f.Fuzz(func(t *testing.T, s string, at int) {
		wantRead(t, s)
		if at >= 0 && at <= len(s) {
			wantOne(t, s, at)
			wantStr(t, s, at)
		}
	})
}
