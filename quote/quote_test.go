package quote_test

import (
	"math"
	"slices"
	"strconv"
	"testing"

	"fleuron/api"
	"fleuron/quote"
)

const most = math.MaxInt32

// of is a style with these marks, auto one with marks that are not asked.
func of(l ...string) api.Style   { return api.Style{Quotes: l} }
func auto(l ...string) api.Style { return api.Style{Quotes: l, Auto: true} }

// kinds is all that open or close, others all else: of a content's, and none at all.
func kinds() []int { return []int{api.OpenQuote, api.CloseQuote, api.NoOpen, api.NoClose} }
func others() []int {
	return []int{math.MinInt, math.MinInt32, -api.CloseQuote, -api.OpenQuote, -1, 0, api.Words, api.AttrOf, api.CounterOf, api.CountersOf, 9, 10, 1<<8 + api.OpenQuote, 1<<32 + api.OpenQuote, 1<<32 + api.CloseQuote, most, math.MaxInt}
}

// below is depths that are below 0, above is those of 0 and more, to the last one.
func below() []int {
	return []int{-1, -2, -3, -100, math.MinInt32, math.MinInt32 - 1, math.MinInt + 1, math.MinInt}
}
func above() []int {
	return []int{0, 1, 2, 3, 4, 5, 64, 1000, 1 << 16, 1 << 30, most - 2, most - 1, most, most + 1, most + 2, 1 << 32, 1 << 62, math.MaxInt - 1, math.MaxInt}
}

// does asks Do.
func does(t *testing.T, st api.Style, depth, kind int, text string, next int) {
	t.Helper()
	if gotText, gotNext := quote.Do(st, depth, kind); gotText != text || gotNext != next {
		t.Errorf("Do(%q Auto %t, %d, %d) = %q, %d, want %q, %d", st.Quotes, st.Auto, depth, kind, gotText, gotNext, text, next)
	}
}

// marks asks Marks.
func marks(t *testing.T, st api.Style, want ...string) {
	t.Helper()
	if got := quote.Marks(st); !slices.Equal(got, want) {
		t.Errorf("Marks(%q Auto %t) = %q, want %q", st.Quotes, st.Auto, got, want)
	}
}

// ends asks Depth.
func ends(t *testing.T, want int, l ...int) {
	t.Helper()
	was := slices.Clone(l)
	if got := quote.Depth(l); got != want {
		t.Errorf("Depth(%v) = %d, want %d", was, got, want)
	}
	if !slices.Equal(l, was) {
		t.Errorf("Depth(%v) makes it %v", was, l)
	}
}

func TestMarks(t *testing.T) { // P17.1
	marks(t, api.Style{})
	marks(t, of())
	marks(t, of([]string{}...))
	marks(t, of("a", "b"), "a", "b")
	marks(t, of("a", "b", "c", "d", "e", "f"), "a", "b", "c", "d", "e", "f")
	// as they stand: empty ones, those that are there twice, a number that is not even
	marks(t, of("", "", "a", "a", "\xff", "\x00"), "", "", "a", "a", "\xff", "\x00")
	marks(t, of("a"), "a")
	marks(t, of("c", "b", "a"), "c", "b", "a")
	// auto, whatever stands beside it
	marks(t, auto(), "\u201c", "\u201d", "\u2018", "\u2019")
	marks(t, auto("a", "b"), "\u201c", "\u201d", "\u2018", "\u2019")
	marks(t, auto("a", "b", "c", "d", "e", "f"), "\u201c", "\u201d", "\u2018", "\u2019")
	// nothing else is asked of a style
	st := of("a", "b")
	st.Display, st.Color, st.ListType, st.Normal, st.None = "none", "red", "\"x", true, true
	st.Content = []api.Item{{Kind: api.OpenQuote}}
	marks(t, st, "a", "b")
	does(t, st, 0, api.OpenQuote, "a", 1)
	does(t, st, 1, api.CloseQuote, "b", 0)
}

func TestOpen(t *testing.T) { // P17.1
	two := of("a", "b", "c", "d")
	for depth, text := range []string{"a", "c", "c", "c", "c"} {
		does(t, two, depth, api.OpenQuote, text, depth+1)
		does(t, two, depth, api.NoOpen, "", depth+1)
	}
	for depth, text := range []string{"\u201c", "\u2018", "\u2018"} {
		does(t, auto("a", "b"), depth, api.OpenQuote, text, depth+1)
		does(t, auto("a", "b"), depth, api.NoOpen, "", depth+1)
	}
	does(t, of("a", "b"), 0, api.OpenQuote, "a", 1)
	does(t, of("a", "b"), 7, api.OpenQuote, "a", 8)
	does(t, of("", "b", "c", ""), 0, api.OpenQuote, "", 1)
}

func TestClose(t *testing.T) { // P17.1
	two := of("a", "b", "c", "d")
	for i, text := range []string{"b", "d", "d", "d", "d"} {
		does(t, two, i+1, api.CloseQuote, text, i)
		does(t, two, i+1, api.NoClose, "", i)
	}
	for i, text := range []string{"\u201d", "\u2019", "\u2019"} {
		does(t, auto("a", "b"), i+1, api.CloseQuote, text, i)
		does(t, auto("a", "b"), i+1, api.NoClose, "", i)
	}
	does(t, of("a", "b"), 1, api.CloseQuote, "b", 0)
	does(t, of("a", "b"), 7, api.CloseQuote, "b", 6)
	does(t, of("a", "", "", "d"), 1, api.CloseQuote, "", 0)
	// what is not open is not closed
	for _, st := range []api.Style{two, auto(), of(), of("a", "b")} {
		does(t, st, 0, api.CloseQuote, "", 0)
		does(t, st, 0, api.NoClose, "", 0)
	}
}

func TestBelow(t *testing.T) { // P17.1: a depth below 0 is 0
	two := of("a", "b", "c", "d")
	for _, depth := range below() {
		does(t, two, depth, api.OpenQuote, "a", 1)
		does(t, two, depth, api.NoOpen, "", 1)
		does(t, two, depth, api.CloseQuote, "", 0)
		does(t, two, depth, api.NoClose, "", 0)
		does(t, auto(), depth, api.OpenQuote, "\u201c", 1)
		for _, kind := range others() {
			does(t, two, depth, kind, "", 0)
		}
	}
}

func TestDeepest(t *testing.T) { // P17.1: next is at most 2^31 - 1, if one opens
	two := of("a", "b", "c", "d")
	for depth, next := range map[int]int{most - 2: most - 1, most - 1: most, most: most, most + 1: most, 1 << 32: most, math.MaxInt - 1: most, math.MaxInt: most} {
		does(t, two, depth, api.OpenQuote, "c", next)
		does(t, two, depth, api.NoOpen, "", next)
		does(t, auto(), depth, api.OpenQuote, "\u2018", next)
		does(t, of(), depth, api.OpenQuote, "", next)
		does(t, two, depth, api.CloseQuote, "d", depth-1)
		does(t, two, depth, api.NoClose, "", depth-1)
		does(t, of(), depth, api.CloseQuote, "", depth-1)
		does(t, two, depth, api.Words, "", depth)
	}
}

func TestOtherKinds(t *testing.T) { // P17.1
	for _, kind := range others() {
		for _, depth := range above() {
			does(t, of("a", "b", "c", "d"), depth, kind, "", depth)
			does(t, auto(), depth, kind, "", depth)
			does(t, of(), depth, kind, "", depth)
		}
	}
}

func TestPairs(t *testing.T) { // P17.1: what is no pair is not told
	for depth := range 5 {
		does(t, of(), depth, api.OpenQuote, "", depth+1)
		does(t, of("a"), depth, api.OpenQuote, "", depth+1)
		does(t, of("a", "b", "c"), depth, api.OpenQuote, "a", depth+1)
		does(t, of(), depth+1, api.CloseQuote, "", depth)
		does(t, of("a"), depth+1, api.CloseQuote, "", depth)
		does(t, of("a", "b", "c"), depth+1, api.CloseQuote, "b", depth)
	}
	var l []string
	for i := range 500 {
		l = append(l, "open"+strconv.Itoa(i), "close"+strconv.Itoa(i))
	}
	for depth := range 600 {
		pair := strconv.Itoa(min(depth, 499))
		does(t, of(l...), depth, api.OpenQuote, "open"+pair, depth+1)
		does(t, of(l...), depth+1, api.CloseQuote, "close"+pair, depth)
	}
}

func TestDepth(t *testing.T) { // P17.1
	const open, shut, noOpen, noClose = api.OpenQuote, api.CloseQuote, api.NoOpen, api.NoClose
	ends(t, 0)
	ends(t, 1, open)
	ends(t, 1, noOpen)
	ends(t, 0, shut)
	ends(t, 0, noClose)
	ends(t, 2, open, noOpen)
	ends(t, 1, open, open, shut)
	ends(t, 1, open, noOpen, noClose)
	ends(t, 0, open, noClose)
	// it is never below 0 on the way
	ends(t, 1, shut, shut, shut, open)
	ends(t, 1, open, shut, noClose, noClose, noOpen)
	ends(t, 3, noClose, open, open, open)
	// others are passed over
	ends(t, 0, others()...)
	ends(t, 2, slices.Concat([]int{open}, others(), []int{open}, others())...)
	many := slices.Concat(slices.Repeat([]int{open, noOpen}, 100000), slices.Repeat([]int{shut, noClose}, 70000))
	ends(t, 60000, many...)
	ends(t, 0, slices.Concat(many, slices.Repeat([]int{shut}, 60001))...)
}

func TestExample(t *testing.T) { // open, open, close: “ ‘ ’
	text, depth := "", 0
	for _, kind := range []int{api.OpenQuote, api.OpenQuote, api.CloseQuote} {
		s, next := quote.Do(auto(), depth, kind)
		text, depth = text+s, next
	}
	if text != "\u201c\u2018\u2019" || depth != 1 {
		t.Errorf("%q, %d", text, depth)
	}
}

func TestNoneBelow(t *testing.T) { // P17.2
	for _, st := range []api.Style{of(), of("a"), of("a", "b", "c", "d"), auto()} {
		for _, depth := range slices.Concat(below(), above()) {
			for _, kind := range slices.Concat(kinds(), others()) {
				if _, next := quote.Do(st, depth, kind); next < 0 {
					t.Errorf("Do(%q, %d, %d): next is %d", st.Quotes, depth, kind, next)
				}
			}
		}
	}
}

func TestHandedIn(t *testing.T) { // DOC.md, rule 3: neither changed nor kept, and new memory
	room := []string{"a", "b", "c", "d", "spare", "room"}
	st := api.Style{Quotes: room[:4]}
	one, two := quote.Marks(st), quote.Marks(st)
	quote.Do(st, 0, api.OpenQuote)
	quote.Do(st, 1, api.CloseQuote)
	one = one[:cap(one)]
	for i := range one {
		one[i] = "spoilt"
	}
	if !slices.Equal(room, []string{"a", "b", "c", "d", "spare", "room"}) {
		t.Errorf("handed in is %q", room)
	}
	room[0], room[3] = "x", "y"
	if !slices.Equal(two, []string{"a", "b", "c", "d"}) {
		t.Errorf("answered is %q", two)
	}
	does(t, st, 0, api.OpenQuote, "x", 1)
	does(t, st, 2, api.CloseQuote, "y", 1)
}

func TestHandedOutAuto(t *testing.T) { // DOC.md, rule 3: so it is of auto
	one := quote.Marks(auto())
	for i := range one {
		one[i] = "spoilt"
	}
	marks(t, auto(), "\u201c", "\u201d", "\u2018", "\u2019")
	does(t, auto(), 0, api.OpenQuote, "\u201c", 1)
	does(t, auto(), 2, api.CloseQuote, "\u2019", 1)
}
