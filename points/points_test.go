package points_test

import (
	"bytes"
	"math"
	"slices"
	"strings"
	"testing"
	"unicode/utf8"

	"fleuron/points"
)

func TestReadSigns(t *testing.T) { // P1.1
	for _, c := range []struct {
		name string
		in   string
		want []rune
	}{
		{"nothing", "", nil},
		{"letters", "a{b:1}", []rune{'a', '{', 'b', ':', '1', '}'}},
		{"two to four bytes", "\u00e4\u20ac\U0001f600", []rune{0xe4, 0x20ac, 0x1f600}},
		{"the last sign of all", "\U0010ffff", []rune{0x10ffff}},
		{"other control signs stay", "\x01\t\v\x1f\x7f\u0085\u2028", []rune{1, 9, 11, 31, 127, 0x85, 0x2028}},
		{"the given U+FFFD is one sign", "\ufffd", []rune{0xfffd}},
		{"each byte that is none", "\xff\xfe", []rune{0xfffd, 0xfffd}},
		{"a sign cut short", "a\xe2\x82", []rune{'a', 0xfffd, 0xfffd}},
		{"a sign broken off", "\xc3(", []rune{0xfffd, '('}},
		{"a tail alone", "\x80b", []rune{0xfffd, 'b'}},
		{"more bytes than it needs", "\xc0\x80", []rune{0xfffd, 0xfffd}},
		{"a surrogate's bytes", "\xed\xa0\x80", []rune{0xfffd, 0xfffd, 0xfffd}},
		{"above the last sign", "\xf4\x90\x80\x80", []rune{0xfffd, 0xfffd, 0xfffd, 0xfffd}},
		{"nought", "\x00a\x00", []rune{0xfffd, 'a', 0xfffd}},
	} {
		if got := points.Read([]byte(c.in)); !slices.Equal(got, c.want) {
			t.Errorf("%s: Read(%q) = %U, want %U", c.name, c.in, got, c.want)
		}
	}
	if got := points.Read(nil); len(got) != 0 {
		t.Errorf("Read(nil) = %U", got)
	}
}

func TestReadLines(t *testing.T) { // P1.1
	for in, want := range map[string]string{
		"a\nb":       "a\nb",
		"a\r\nb":     "a\nb",
		"a\rb":       "a\nb",
		"a\fb":       "a\nb",
		"\r":         "\n",
		"\r\n":       "\n",
		"\n\r":       "\n\n",
		"\r\r\n":     "\n\n",
		"\r\n\n":     "\n\n",
		"\r\n\r\n":   "\n\n",
		"\r\f\n":     "\n\n\n",
		"\f\n":       "\n\n",
		"\r\x00\n":   "\n\ufffd\n",
		"\r\xff\n":   "\n\ufffd\n",
		"\r\ufeff\n": "\n\ufeff\n",
	} {
		if got := string(points.Read([]byte(in))); got != want {
			t.Errorf("Read(%q) = %q, want %q", in, got, want)
		}
	}
}

func TestReadMark(t *testing.T) { // P1.1
	for in, want := range map[string]string{
		"\ufeff":           "",
		"\ufeffa\ufeff":    "a\ufeff",
		"\ufeff\ufeff":     "\ufeff",
		"a\ufeff":          "a\ufeff",
		"\x00\ufeff":       "\ufffd\ufeff",
		"\n\ufeff":         "\n\ufeff",
		"\ufeff\r\n":       "\n",
		"\ufeff\x00":       "\ufffd",
		"\xef\xbb":         "\ufffd\ufffd",
		"\xff\xef\xbb\xbf": "\ufffd\ufeff",
	} {
		if got := string(points.Read([]byte(in))); got != want {
			t.Errorf("Read(%q) = %q, want %q", in, got, want)
		}
	}
}

func TestReadEveryByte(t *testing.T) { // P1.1
	for c := range 256 {
		want := rune(c)
		switch {
		case c == 0 || c >= 0x80:
			want = 0xfffd
		case c == '\r' || c == '\f':
			want = '\n'
		}
		if got := points.Read([]byte{byte(c)}); !slices.Equal(got, []rune{want}) {
			t.Errorf("Read of byte %d = %U, want %U", c, got, want)
		}
	}
}

func TestReadMuch(t *testing.T) { // P1.1
	in := []byte(strings.Repeat("\r\n\xff\u20ac", 1<<16))
	want := []rune(strings.Repeat("\n\ufffd\u20ac", 1<<16))
	if !slices.Equal(points.Read(in), want) {
		t.Error("Read of a long sheet")
	}
}

func TestPut(t *testing.T) { // P1.1
	for r := rune(-3); r <= 0x110003; r++ {
		want := "\xef\xbf\xbd"
		if utf8.ValidRune(r) {
			want = string(utf8.AppendRune(nil, r))
		}
		if got := points.Put(r); got != want {
			t.Fatalf("Put(%d) = %q, want %q", r, got, want)
		}
	}
	for _, r := range []rune{math.MinInt32, math.MaxInt32} {
		if got := points.Put(r); got != "\ufffd" {
			t.Errorf("Put(%d) = %q", r, got)
		}
	}
}

// some is the signs below U+0100, those about them, and the outermost numbers.
func some() []rune {
	l := []rune{math.MinInt32, math.MinInt32 + 0x41, -0x10000 + 0x41}
	for r := rune(-300); r < 0x400; r++ {
		l = append(l, r)
	}
	return append(l, 0x2028, 0x3000, 0xd800, 0xfeff, 0xfffd, 0xff10, 0xff21, 0x10041, 0x10ffff, 0x110000, math.MaxInt32)
}

const (
	abc    = "abcdefghijklmnopqrstuvwxyzABCDEFGHIJKLMNOPQRSTUVWXYZ"
	digits = "0123456789"
	hexes  = "0123456789abcdef"
)

// has tells whether r is one of the signs of s, of which each has one byte.
func has(s string, r rune) bool {
	return r >= 0 && r < 0x80 && strings.IndexByte(s, byte(r)) >= 0
}

func TestClasses(t *testing.T) { // P1.2
	for _, r := range some() {
		high := r >= 0x80
		for _, c := range []struct {
			name      string
			got, want bool
		}{
			{"Letter", points.Letter(r), high || has(abc+"_", r)},
			{"Digit", points.Digit(r), has(digits, r)},
			{"Name", points.Name(r), high || has(abc+"_"+digits+"-", r)},
			{"White", points.White(r), has("\n\t ", r)},
		} {
			if c.got != c.want {
				t.Errorf("%s(%d) = %v", c.name, r, c.got)
			}
		}
	}
}

func TestHex(t *testing.T) { // P1.2
	for _, r := range some() {
		want, ok := 0, has(hexes+"ABCDEF", r)
		if ok {
			want = strings.IndexByte(hexes, strings.ToLower(string(r))[0])
		}
		if got, is := points.Hex(r); got != want || is != ok {
			t.Errorf("Hex(%d) = %d, %v, want %d, %v", r, got, is, want, ok)
		}
	}
}

func TestLower(t *testing.T) { // P1.2
	for in, want := range map[string]string{
		"":                       "",
		"AbZ":                    "abz",
		"counter-RESET_9":        "counter-reset_9",
		"@[`{":                   "@[`{",
		"\u00c4\u0130\u212a":     "\u00c4\u0130\u212a",
		"\xff\xc3A\x00\xe2\x82Z": "\xff\xc3a\x00\xe2\x82z",
	} {
		if got := points.Lower(in); got != want {
			t.Errorf("Lower(%q) = %q, want %q", in, got, want)
		}
	}
	for c := range 256 {
		want := byte(c)
		if c >= 'A' && c <= 'Z' {
			want += 32
		}
		if got := points.Lower(string([]byte{byte(c)})); got != string([]byte{want}) {
			t.Errorf("Lower of byte %d = %q", c, got)
		}
	}
}

func TestReadLeavesBytes(t *testing.T) { // P1.3
	room := []byte("\ufeffa\r\nb\x00\xffspare")
	was := bytes.Clone(room)
	in := room[: len(room)-5 : len(room)]
	first := points.Read(in)
	if !bytes.Equal(room, was) {
		t.Errorf("Read changed its bytes, or those behind them: %q", room)
	}
	second := points.Read(in)
	clear(room)
	for i := range second {
		second[i] = 'x'
	}
	if want := []rune{'a', '\n', 'b', 0xfffd, 0xfffd}; !slices.Equal(first, want) {
		t.Errorf("an answer is not of its own: %U, want %U", first, want)
	}
}
