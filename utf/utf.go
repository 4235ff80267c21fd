// Package utf is layer 1: see shared/doc/01-utf.md.
package utf

import (
	"errors"

	"eponym/api"
)

// What the bytes of forms are marked by, and what a byte behind the first one carries.
const (
	lead2    = 0xc0
	lead3    = 0xe0
	lead4    = 0xf0
	leadNone = 0xf8

	tail     = 0x80
	tailMask = 0xc0
	tailBits = 6
	tailLow  = 1<<tailBits - 1
)

// Right tells whether a rune is one.
func Right(r rune) bool {
	return Width(r) > 0
}

// Width is how many bytes a rune's form has.
func Width(r rune) int {
	switch {
	case r < 0 || r > api.MaxRune:
		return 0
	case r < 0x80:
		return 1
	case r < 0x800:
		return 2
	case r >= 0xd800 && r <= 0xdfff:
		return 0
	case r < 0x10000:
		return 3
	}
	return 4
}

// Next is the rune at a place, and its width.
func Next(s string, at int) (r rune, width int, e error) {
	if at < 0 || at >= len(s) {
		return 0, 0, &api.Fault{At: at, Err: api.ErrRange}
	}
	r, width, e = first(s[at:])
	return r, width, moved(e, at)
}

// Decode is a text's runes.
func Decode(s string) ([]rune, error) {
	var l []rune
	for at := 0; at < len(s); {
		r, width, e := Next(s, at)
		if e != nil {
			return nil, e
		}
		l = append(l, r)
		at += width
	}
	return l, nil
}

// Valid tells whether a text is well-formed.
func Valid(s string) bool {
	_, e := Decode(s)
	return e == nil
}

// Encode is runes' forms.
func Encode(l []rune) (string, error) {
	var b []byte
	for i, r := range l {
		if !Right(r) {
			return "", &api.Fault{At: i, Err: api.ErrRange}
		}
		b = appendForm(b, r)
	}
	return string(b), nil
}

// first is the rune whose form a text begins with, and its width. The text isn't empty.
func first(s string) (rune, int, error) {
	width := formWidth(s[0])
	if width == 0 {
		return 0, 0, &api.Fault{At: 0, Err: api.ErrByte}
	}
	r := leadBits(s[0], width)
	seen := 1
	for seen < width && seen < len(s) {
		if s[seen]&tailMask != tail {
			return 0, 0, &api.Fault{At: 0, Err: api.ErrByte}
		}
		r = r<<tailBits | rune(s[seen]&tailLow)
		seen++
	}
	if !leadsToRight(r, width, width-seen) {
		return 0, 0, &api.Fault{At: 0, Err: api.ErrByte}
	}
	if seen < width {
		return 0, 0, &api.Fault{At: 0, Err: api.ErrEnd}
	}
	return r, width, nil
}

// formWidth is how many bytes the kind of form has that a first byte begins; 0: it begins none.
func formWidth(b byte) int {
	width := 0
	switch {
	case b >= leadNone:
		return 0
	case b >= lead4:
		width++
		fallthrough
	case b >= lead3:
		width++
		fallthrough
	case b >= lead2:
		width++
		fallthrough
	case b < tail:
		width++
	}
	return width
}

// leadBits is what the first byte of a form of that width carries of its rune.
func leadBits(b byte, width int) rune {
	switch width {
	case 2:
		return rune(b - lead2)
	case 3:
		return rune(b - lead3)
	case 4:
		return rune(b - lead4)
	}
	return rune(b)
}

// leadsToRight tells whether some right rune's form of that width carries these bits in all but its last missing bytes.
// All runes with these bits are a block in which at most one bound of the right runes of that width lies, so that these, if any, touch one of its ends.
func leadsToRight(bits rune, width, missing int) bool {
	shift := missing * tailBits
	least := bits << shift
	greatest := least | (rune(1)<<shift - 1)
	return Width(least) == width || Width(greatest) == width
}

// appendForm adds a right rune's form to bytes.
func appendForm(b []byte, r rune) []byte {
	switch Width(r) {
	case 1:
		return append(b, byte(r))
	case 2:
		return append(b, lead2|byte(r>>tailBits), tailOf(r))
	case 3:
		return append(b, lead3|byte(r>>(2*tailBits)), tailOf(r>>tailBits), tailOf(r))
	}
	return append(b, lead4|byte(r>>(3*tailBits)), tailOf(r>>(2*tailBits)), tailOf(r>>tailBits), tailOf(r))
}

// tailOf is the byte behind a form's first one that carries a rune's lowest bits.
func tailOf(r rune) byte {
	return tail | byte(r&tailLow)
}

// moved is an error of a text's end from a place on, told as one of the whole text.
func moved(e error, by int) error {
	var f *api.Fault
	if errors.As(e, &f) {
		return &api.Fault{At: f.At + by, Err: f.Err}
	}
	return e
}
