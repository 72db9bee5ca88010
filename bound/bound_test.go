package bound_test

import (
	"math"
	"math/big"
	"math/rand"
	"strconv"
	"strings"
	"testing"

	"bocage/api"
	"bocage/bound"
	"bocage/cut"
	"bocage/sat"
	"bocage/span"
)

func at(n int64) api.Cut { return api.Cut{At: n} }

func first() api.Cut { return api.Cut{Side: -1} }

func last() api.Cut { return api.Cut{Side: 1} }

func to(a, b int64) api.Span { return api.Span{Low: at(a), High: at(b)} }

func below(b int64) api.Span { return api.Span{Low: first(), High: at(b)} }

func from(a int64) api.Span { return api.Span{Low: at(a), High: last()} }

func all() api.Span { return api.Span{Low: first(), High: last()} }

func none() api.Bound { return api.Bound{Kind: api.None} }

func open(n int64) api.Bound { return api.Bound{Kind: api.Open, At: n} }

func closed(n int64) api.Bound { return api.Bound{Kind: api.Closed, At: n} }

// someNumbers are three at each end, and some around 0, rising.
func someNumbers() []int64 {
	return []int64{sat.Least, sat.Least + 1, sat.Least + 2, -2, -1, 0, 1, 2, 3, sat.Greatest - 2, sat.Greatest - 1, sat.Greatest}
}

// rightCuts are those ahead of someNumbers, and Last, rising.
func rightCuts() []api.Cut {
	l := []api.Cut{first()}
	for _, n := range someNumbers()[1:] {
		l = append(l, at(n))
	}
	return append(l, last())
}

// wrongCuts are cuts that are not right, each with the right one of its place.
func wrongCuts() map[api.Cut]api.Cut {
	wrong := map[api.Cut]api.Cut{at(sat.Least): first()}
	for _, n := range someNumbers() {
		for _, far := range []int{2, 3, math.MaxInt} {
			wrong[api.Cut{Side: -far, At: n}] = first()
			wrong[api.Cut{Side: far, At: n}] = last()
		}
		wrong[api.Cut{Side: math.MinInt, At: n}] = first()
		if n != 0 {
			wrong[api.Cut{Side: -1, At: n}] = first()
			wrong[api.Cut{Side: 1, At: n}] = last()
		}
	}
	return wrong
}

// rightSpans are all that have their cuts among rightCuts.
func rightSpans() []api.Span {
	var l []api.Span
	cuts := rightCuts()
	for i, low := range cuts {
		for _, high := range cuts[i+1:] {
			l = append(l, api.Span{Low: low, High: high})
		}
	}
	return l
}

// wrongSpans are some that are not right: without a number, or with a cut that is not the one of its place.
func wrongSpans() []api.Span {
	l := []api.Span{{}}
	cuts := rightCuts()
	for i, high := range cuts {
		for _, low := range cuts[i:] {
			l = append(l, api.Span{Low: low, High: high})
		}
	}
	for wrong := range wrongCuts() {
		l = append(l, api.Span{Low: wrong, High: last()}, api.Span{Low: first(), High: wrong}, api.Span{Low: wrong, High: wrong})
	}
	return l
}

// someBounds are one None and those Open and Closed at someNumbers.
func someBounds() []api.Bound {
	l := []api.Bound{none()}
	for _, n := range someNumbers() {
		l = append(l, open(n), closed(n))
	}
	return l
}

// within is the span of the whole numbers from least to greatest, of those that are numbers; false, if there are none.
func within(least, greatest *big.Int) (api.Span, bool) {
	one := big.NewInt(1)
	end := new(big.Int).Add(greatest, one)
	if least.Cmp(end) >= 0 || !least.IsInt64() || !greatest.IsInt64() {
		return api.Span{}, false
	}
	s := api.Span{Low: first(), High: last()}
	if least.Int64() != sat.Least {
		s.Low = at(least.Int64())
	}
	if greatest.Int64() != sat.Greatest {
		s.High = at(end.Int64())
	}
	return s, true
}

// spanOf is the span of two bounds of some kind, by whole numbers of any size.
func spanOf(low, high api.Bound) (api.Span, bool) {
	least, greatest := big.NewInt(sat.Least), big.NewInt(sat.Greatest)
	if low.Kind != api.None {
		least.SetInt64(low.At)
	}
	if high.Kind != api.None {
		greatest.SetInt64(high.At)
	}
	if low.Kind == api.Open {
		least.Add(least, big.NewInt(1))
	}
	if high.Kind == api.Open {
		greatest.Sub(greatest, big.NewInt(1))
	}
	return within(least, greatest)
}

func TestSpanIsOfAllNumbersBetween(t *testing.T) { // P4.1
	for _, low := range someBounds() {
		for _, high := range someBounds() {
			want, is := spanOf(low, high)
			e := api.OK
			if !is {
				e = api.ErrSpanEmpty
			}
			if s, f := bound.Span(low, high); s != want || f != e {
				t.Errorf("P4.1: Span(%v, %v) = %v, %v, not %v, %v", low, high, s, f, want, e)
			}
		}
	}
}

func TestSpanAtTheEdges(t *testing.T) { // P4.1
	for i, x := range []struct {
		low, high api.Bound
		want      api.Span
		e         api.Errno
	}{
		{open(3), closed(5), to(4, 6), api.OK},
		{open(3), open(4), api.Span{}, api.ErrSpanEmpty},
		{open(3), open(5), to(4, 5), api.OK},
		{closed(3), open(3), api.Span{}, api.ErrSpanEmpty},
		{open(3), closed(3), api.Span{}, api.ErrSpanEmpty},
		{closed(3), closed(3), to(3, 4), api.OK},
		{closed(4), closed(3), api.Span{}, api.ErrSpanEmpty},
		{none(), closed(-1), below(0), api.OK},
		{open(-1), none(), from(0), api.OK},
		{none(), none(), all(), api.OK},
		{api.Bound{Kind: api.None, At: 7}, api.Bound{Kind: api.None, At: -7}, all(), api.OK},
		{api.Bound{Kind: api.None, At: 7}, open(3), below(3), api.OK},
		{closed(3), api.Bound{Kind: api.None, At: -7}, from(3), api.OK},
		{closed(sat.Least), closed(sat.Greatest), all(), api.OK},
		{open(sat.Least), open(sat.Greatest), to(sat.Least+1, sat.Greatest), api.OK},
		{closed(sat.Least), closed(sat.Least), below(sat.Least + 1), api.OK},
		{closed(sat.Greatest), closed(sat.Greatest), from(sat.Greatest), api.OK},
		{open(sat.Greatest), none(), api.Span{}, api.ErrSpanEmpty},
		{open(sat.Greatest), closed(sat.Greatest), api.Span{}, api.ErrSpanEmpty},
		{none(), open(sat.Least), api.Span{}, api.ErrSpanEmpty},
		{open(sat.Greatest), open(sat.Least), api.Span{}, api.ErrSpanEmpty},
	} {
		if s, e := bound.Span(x.low, x.high); s != x.want || e != x.e {
			t.Errorf("P4.1: %d: Span(%v, %v) = %v, %v", i, x.low, x.high, s, e)
		}
	}
}

func TestSpanOfAKindThatIsNone(t *testing.T) { // P4.1: named ahead of ErrSpanEmpty
	for _, kind := range []int{-1, 3, 4, math.MinInt, math.MaxInt} {
		for _, n := range someNumbers() {
			wrong := api.Bound{Kind: kind, At: n}
			others := append(someBounds(), wrong)
			for _, other := range others {
				if s, e := bound.Span(wrong, other); s != (api.Span{}) || e != api.ErrBoundForm {
					t.Errorf("P4.1: Span(%v, %v) = %v, %v", wrong, other, s, e)
				}
				if s, e := bound.Span(other, wrong); s != (api.Span{}) || e != api.ErrBoundForm {
					t.Errorf("P4.1: Span(%v, %v) = %v, %v", other, wrong, s, e)
				}
			}
		}
	}
}

func TestLowAndHighOfACut(t *testing.T) { // P4.1
	for _, x := range []struct {
		c         api.Cut
		low, high api.Bound
	}{
		{at(3), closed(3), open(3)},
		{at(0), closed(0), open(0)},
		{at(-3), closed(-3), open(-3)},
		{at(sat.Least + 1), closed(sat.Least + 1), open(sat.Least + 1)},
		{at(sat.Greatest), closed(sat.Greatest), open(sat.Greatest)},
		{first(), none(), open(sat.Least)},
		{last(), open(sat.Greatest), none()},
	} {
		if low, high := bound.Low(x.c), bound.High(x.c); low != x.low || high != x.high {
			t.Errorf("P4.1: %v: Low %v, High %v", x.c, low, high)
		}
	}
	for wrong, right := range wrongCuts() {
		if bound.Low(wrong) != bound.Low(right) || bound.High(wrong) != bound.High(right) {
			t.Errorf("P4.1: %v: Low %v, High %v", wrong, bound.Low(wrong), bound.High(wrong))
		}
	}
}

func TestLowAndHighAreTheBoundsOfASpan(t *testing.T) { // P4.1
	for _, want := range rightSpans() {
		if s, e := bound.Span(bound.Low(want.Low), bound.High(want.High)); s != want || e != api.OK {
			t.Errorf("P4.1: Span of %v's bounds = %v, %v", want, s, e)
		}
	}
}

// textOf is the text of a right span.
func textOf(s api.Span) string {
	low, high := "(-inf", "+inf"
	if s.Low.Side == 0 {
		low = "[" + strconv.FormatInt(s.Low.At, 10)
	}
	if s.High.Side == 0 {
		high = strconv.FormatInt(s.High.At, 10)
	}
	return low + "," + high + ")"
}

func TestTextOfSpans(t *testing.T) { // P4.2
	for want, s := range map[string]api.Span{
		"[4,6)":                        to(4, 6),
		"[-6,-4)":                      to(-6, -4),
		"[-4,+inf)":                    from(-4),
		"(-inf,0)":                     below(0),
		"(-inf,+inf)":                  all(),
		"(-inf,-12345)":                below(-12345),
		"[9223372036854775807,+inf)":   from(sat.Greatest),
		"(-inf,-9223372036854775807)":  below(sat.Least + 1),
		"[-9223372036854775807,+inf)":  from(sat.Least + 1),
		"[-922337203685477580,100000)": to(-922337203685477580, 100000),
	} {
		if got := bound.Text(s); got != want {
			t.Errorf("P4.2: Text(%v) = %q, not %q", s, got, want)
		}
	}
	for _, s := range rightSpans() {
		if got := bound.Text(s); got != textOf(s) {
			t.Errorf("P4.2: Text(%v) = %q, not %q", s, got, textOf(s))
		}
	}
}

func TestTextOfSpansThatAreNotRight(t *testing.T) { // P4.2
	for _, s := range wrongSpans() {
		if got := bound.Text(s); got != "" {
			t.Errorf("P4.2: Text(%v) = %q", s, got)
		}
	}
}

// answer is what Read and Loose tell.
type answer struct {
	s api.Span
	n int
	e api.Errno
}

func read(s string) answer {
	x, n, e := bound.Read(s)
	return answer{x, n, e}
}

func loose(s string) answer {
	x, n, e := bound.Loose(s)
	return answer{x, n, e}
}

func ok(s api.Span, n int) answer { return answer{s, n, api.OK} }

func form(place int) answer { return answer{n: place, e: api.ErrBoundForm} }

func empty(place int) answer { return answer{n: place, e: api.ErrSpanEmpty} }

func TestReadAndLooseAtTheEdges(t *testing.T) { // P4.2, P4.3
	for _, x := range []struct {
		s           string
		read, loose answer
	}{
		{"[4,6)", ok(to(4, 6), 5), ok(to(4, 6), 5)},
		{"[4,6)x", ok(to(4, 6), 5), ok(to(4, 6), 5)},
		{"[4,6))", ok(to(4, 6), 5), ok(to(4, 6), 5)},
		{"[4,6) ", ok(to(4, 6), 5), ok(to(4, 6), 5)},
		{"(-inf,+inf)", ok(all(), 11), ok(all(), 11)},
		{"(-inf,-4)", ok(below(-4), 9), ok(below(-4), 9)},
		{"[-4,+inf)", ok(from(-4), 9), ok(from(-4), 9)},
		// the first part
		{"", form(0), form(0)},
		{" [4,6)", form(0), form(0)},
		{"4,6)", form(0), form(0)},
		{"]4,6)", form(0), form(0)},
		{")4,6)", form(0), form(0)},
		{"{4,6)", form(0), form(0)},
		{"-inf,6)", form(0), form(0)},
		// the second
		{"(", form(1), form(1)},
		{"[", form(1), form(1)},
		{"[   ", form(1), form(4)},
		{"[,6)", form(1), form(1)},
		{"[  ,6)", form(1), form(3)},
		{"(4,6)", form(1), ok(to(5, 6), 5)},
		{"[-inf,6)", form(1), ok(below(6), 8)},
		{"(-in,6)", form(1), form(1)},
		{"(-INF,6)", form(1), form(1)},
		{"(inf,6)", form(1), form(1)},
		{"(+inf,6)", form(1), form(1)},
		{"[+inf,6)", form(1), form(1)},
		{"[+4,6)", form(1), form(1)},
		{"[-,6)", form(1), form(1)},
		{"[-0,6)", form(1), form(1)},
		{"[x,6)", form(1), form(1)},
		{"[\t4,6)", form(1), form(1)},
		{"[ 4,6)", form(1), ok(to(4, 6), 6)},
		// the comma
		{"[4", form(2), form(2)},
		{"[4  ", form(2), form(4)},
		{"[07,9)", form(2), form(2)},
		{"[0 7,9)", form(2), form(3)},
		{"[4;6)", form(2), form(2)},
		{"[4)", form(2), form(2)},
		{"[4 ,6)", form(2), ok(to(4, 6), 6)},
		{"(-infx,6)", form(5), form(5)},
		{"(-inf  x,6)", form(5), form(7)},
		{"(-inf ,6)", form(5), ok(below(6), 9)},
		{"[9223372036854775808,+inf)", form(19), form(19)},
		{"[-9223372036854775808,0)", form(20), ok(below(0), 24)},
		{"[-9223372036854775809,0)", form(20), form(20)},
		{"[-92233720368547758080,0)", form(20), form(21)},
		{"[-9223372036854775807,0)", ok(to(sat.Least+1, 0), 24), ok(to(sat.Least+1, 0), 24)},
		// the fourth
		{"[4,", form(3), form(3)},
		{"[4,  ", form(3), form(5)},
		{"[4,)", form(3), form(3)},
		{"[4,,6)", form(3), form(3)},
		{"[4,-inf)", form(3), form(3)},
		{"[4,inf)", form(3), form(3)},
		{"[4,+in)", form(3), form(3)},
		{"[4,+6)", form(3), form(3)},
		{"[4, 6)", form(3), ok(to(4, 6), 6)},
		{"[4,\n6)", form(3), form(3)},
		{"(-inf,-inf)", form(6), form(6)},
		{"(-inf,  -inf)", form(6), form(8)},
		// the last
		{"[4,6", form(4), form(4)},
		{"[4,6  ", form(4), form(6)},
		{"[4,6]", form(4), ok(to(4, 7), 5)},
		{"[4,6(", form(4), form(4)},
		{"[4,6x)", form(4), form(4)},
		{"[4,6  x)", form(4), form(6)},
		{"[4,06)", form(4), form(4)},
		{"[4,6 )", form(4), ok(to(4, 6), 6)},
		{"[4,+inf]", form(7), ok(from(4), 8)},
		{"[4,+info)", form(7), form(7)},
		{"[-4,9223372036854775808)", form(22), form(22)},
		{"(-inf,-9223372036854775808)", form(25), empty(6)},
		{"(-inf,-9223372036854775808]", form(25), ok(below(sat.Least+1), 27)},
		// no numbers: what is not there is told ahead of that
		{"[4,4)", empty(3), empty(3)},
		{"[6,4)", empty(3), empty(3)},
		{"[6,4)x", empty(3), empty(3)},
		{"[6,4", form(4), form(4)},
		{"[6,4;", form(4), form(4)},
		{"[6,4]", form(4), empty(3)},
		{"[123,-4)", empty(5), empty(5)},
		{"(3 ,  4)", form(1), empty(6)},
		{"(3,3]", form(1), empty(3)},
		{"[3 , 3 )", form(2), empty(5)},
		{"[3,3]", form(4), ok(to(3, 4), 5)},
		// None, whatever stands beside it
		{"[-inf,+inf]", form(1), ok(all(), 11)},
		{"[-inf,+inf)", form(1), ok(all(), 11)},
		{"(-inf,+inf]", form(10), ok(all(), 11)},
		{"( -inf , +inf )", form(1), ok(all(), 15)},
		{"[ 9223372036854775807 , +inf ]", form(1), ok(from(sat.Greatest), 30)},
		{"(9223372036854775807,+inf]", form(1), empty(21)},
		{"[9223372036854775807,9223372036854775807]", form(40), ok(from(sat.Greatest), 41)},
		{"(9223372036854775806,9223372036854775807]", form(1), ok(from(sat.Greatest), 41)},
		{"(-9223372036854775808,0)", form(1), ok(to(sat.Least+1, 0), 24)},
		{"[-9223372036854775808,9223372036854775807]", form(20), ok(all(), 42)},
		// blanks of every number
		{"( 3 , 5 ]x", form(1), ok(to(4, 6), 9)},
		{"(    3,5]", form(1), ok(to(4, 6), 9)},
		{"[3    ,     5    ]    ", form(2), ok(to(3, 6), 18)},
	} {
		if got := read(x.s); got != x.read {
			t.Errorf("P4.2: Read(%q) = %v, not %v", x.s, got, x.read)
		}
		if got := loose(x.s); got != x.loose {
			t.Errorf("P4.3: Loose(%q) = %v, not %v", x.s, got, x.loose)
		}
	}
}

// longest is the longest beginning of s that is a number's text: all that may be one are tried.
func longest(s string) (int64, int) {
	for long := min(len(s), 20); long > 0; long-- {
		n, e := strconv.ParseInt(s[:long], 10, 64)
		if e == nil && strconv.FormatInt(n, 10) == s[:long] {
			return n, long
		}
	}
	return 0, 0
}

// endOf is the end that the beginning of s says: inf, or a number, and how many bytes; 0, if there is none.
func endOf(s, inf string) (api.Bound, int) {
	if strings.HasPrefix(s, inf) {
		return none(), len(inf)
	}
	n, long := longest(s)
	return closed(n), long
}

// blanksOf is how many blanks stand at the beginning of s.
func blanksOf(s string) int { return len(s) - len(strings.TrimLeft(s, " ")) }

// one tells whether the byte of s at place is one of those.
func one(s string, place int, those string) bool {
	return place < len(s) && strings.IndexByte(those, s[place]) >= 0
}

// looseOf is what Loose is to tell, written down part by part.
func looseOf(s string) answer {
	if !one(s, 0, "([") {
		return form(0)
	}
	place := 1 + blanksOf(s[1:])
	low, long := endOf(s[place:], "-inf")
	if long == 0 {
		return form(place)
	}
	if low.Kind != api.None && s[0] == '(' {
		low.Kind = api.Open
	}
	place += long
	place += blanksOf(s[place:])
	if !one(s, place, ",") {
		return form(place)
	}
	place++
	place += blanksOf(s[place:])
	second := place
	high, long := endOf(s[place:], "+inf")
	if long == 0 {
		return form(place)
	}
	place += long
	place += blanksOf(s[place:])
	if !one(s, place, ")]") {
		return form(place)
	}
	if high.Kind != api.None && s[place] == ')' {
		high.Kind = api.Open
	}
	if x, is := spanOf(low, high); is {
		return ok(x, place+1)
	}
	return empty(second)
}

// numberOf is how many bytes the longest beginning of s has that is a number's text, but not sat.Least's.
func numberOf(s string) int {
	n, long := longest(s)
	if n == sat.Least {
		return long - 1 // without its last digit it is a number's text, too
	}
	return long
}

// readOf is what Read is to tell, written down part by part.
func readOf(s string) answer {
	if !one(s, 0, "([") {
		return form(0)
	}
	place := 1
	switch {
	case s[0] == '(' && strings.HasPrefix(s[1:], "-inf"):
		place += len("-inf")
	case s[0] == '[' && numberOf(s[1:]) > 0:
		place += numberOf(s[1:])
	default:
		return form(1)
	}
	if !one(s, place, ",") {
		return form(place)
	}
	place++
	second := place
	switch {
	case strings.HasPrefix(s[place:], "+inf"):
		place += len("+inf")
	case numberOf(s[place:]) > 0:
		place += numberOf(s[place:])
	default:
		return form(place)
	}
	if !one(s, place, ")") {
		return form(place)
	}
	x := looseOf(s[:place+1])
	if x.e == api.ErrSpanEmpty {
		return empty(second)
	}
	return x
}

// someTexts calls visit with texts of one part behind the other, each of them right or amiss in some way.
func someTexts(visit func(string)) {
	ends := []string{"", "0", "4", "-4", "04", "-0", "-", "+inf", "-inf", "-in", "+4", "9223372036854775807", "9223372036854775808", "-9223372036854775808", "-9223372036854775807", "x"}
	for _, opening := range []string{"(", "[", "", " (", "[ ", "(  ", ")", "]"} {
		for _, low := range ends {
			for _, comma := range []string{",", "", ";", " ,", ",  ", "  , ", ",,"} {
				for _, high := range ends {
					for _, closing := range []string{")", "]", "", " )", "  ]", "(", ")x", "] ", "))"} {
						visit(opening + low + comma + high + closing)
					}
				}
			}
		}
	}
}

func TestReadIsPartByPart(t *testing.T) { // P4.2
	someTexts(func(s string) {
		if got, want := read(s), readOf(s); got != want {
			t.Errorf("P4.2: Read(%q) = %v, not %v", s, got, want)
		}
	})
}

func TestLooseIsPartByPart(t *testing.T) { // P4.3
	someTexts(func(s string) {
		if got, want := loose(s), looseOf(s); got != want {
			t.Errorf("P4.3: Loose(%q) = %v, not %v", s, got, want)
		}
	})
}

func TestReadAndLooseOfAnyBytes(t *testing.T) { // P4.2, P4.3, R1
	chance := rand.New(rand.NewSource(4))
	pieces := []string{"(", "[", ")", "]", ",", " ", "-inf", "+inf", "0", "4", "-", "12", "\x00", "\xff", "é", "(-inf,", "[4,", "6)"}
	for range 200000 {
		var s string
		for range chance.Intn(9) {
			s += pieces[chance.Intn(len(pieces))]
		}
		if got, want := read(s), readOf(s); got != want {
			t.Fatalf("P4.2: Read(%q) = %v, not %v", s, got, want)
		}
		if got, want := loose(s), looseOf(s); got != want {
			t.Fatalf("P4.3: Loose(%q) = %v, not %v", s, got, want)
		}
	}
}

func TestReadAndLooseOfAPieceOfAText(t *testing.T) { // P4.2, P4.3: the place of the part that is not there
	for _, s := range []string{"[-12,345)", "(-inf,345)", "[-12,+inf)", "(-inf,+inf)", "( -inf  ,  +inf   ]", "(  -12 ,  345  ]"} {
		for long := range len(s) {
			if got, want := read(s[:long]), readOf(s[:long]); got != want || got.e != api.ErrBoundForm {
				t.Errorf("P4.2: Read(%q) = %v, not %v", s[:long], got, want)
			}
			if got, want := loose(s[:long]), looseOf(s[:long]); got != want || got.e != api.ErrBoundForm {
				t.Errorf("P4.3: Loose(%q) = %v, not %v", s[:long], got, want)
			}
		}
	}
}

func TestParseIsOfAllBytes(t *testing.T) { // P4.2
	for _, x := range []struct {
		s    string
		want api.Span
		e    api.Errno
	}{
		{"[4,6)", to(4, 6), api.OK},
		{"(-inf,+inf)", all(), api.OK},
		{"", api.Span{}, api.ErrBoundForm},
		{"[4,6)x", api.Span{}, api.ErrBoundForm},
		{"[4,6) ", api.Span{}, api.ErrBoundForm},
		{" [4,6)", api.Span{}, api.ErrBoundForm},
		{"[4,6)[4,6)", api.Span{}, api.ErrBoundForm},
		{"[4,6]", api.Span{}, api.ErrBoundForm},
		{"(4,6)", api.Span{}, api.ErrBoundForm},
		{"[4, 6)", api.Span{}, api.ErrBoundForm},
		{"[04,6)", api.Span{}, api.ErrBoundForm},
		{"[4,4)", api.Span{}, api.ErrSpanEmpty},
		{"[6,4)", api.Span{}, api.ErrSpanEmpty},
		{"[6,4)x", api.Span{}, api.ErrSpanEmpty}, // Read's own errors are named first
		{"[6,4", api.Span{}, api.ErrBoundForm},
	} {
		if s, e := bound.Parse(x.s); s != x.want || e != x.e {
			t.Errorf("P4.2: Parse(%q) = %v, %v", x.s, s, e)
		}
	}
	someTexts(func(s string) {
		want := readOf(s)
		if want.e == api.OK && want.n < len(s) {
			want = form(0)
		}
		if x, e := bound.Parse(s); x != want.s || e != want.e {
			t.Errorf("P4.2: Parse(%q) = %v, %v", s, x, e)
		}
	})
}

func TestParseOfText(t *testing.T) { // P4.4
	for _, want := range rightSpans() {
		s := bound.Text(want)
		if got, e := bound.Parse(s); got != want || e != api.OK {
			t.Errorf("P4.4: Parse(%q) = %v, %v", s, got, e)
		}
		for _, behind := range []string{"", "x", ")", ",", " ", "0"} {
			if got := read(s + behind); got != ok(want, len(s)) {
				t.Errorf("P4.4: Read(%q) = %v", s+behind, got)
			}
			if got := loose(s + behind); got != ok(want, len(s)) {
				t.Errorf("P4.4: Loose(%q) = %v", s+behind, got)
			}
		}
	}
}

func TestLooseReadsWhatReadReads(t *testing.T) { // P4.4
	reads := 0
	someTexts(func(s string) {
		got := read(s)
		if got.e != api.OK {
			return
		}
		reads++
		if got != loose(s) {
			t.Errorf("P4.4: Read(%q) = %v, Loose %v", s, got, loose(s))
		}
		if text := bound.Text(got.s); text != s[:got.n] || !span.Right(got.s) || cut.Compare(got.s.Low, got.s.High) >= 0 {
			t.Errorf("P4.4: Read(%q) = %v, whose text is %q", s, got, text)
		}
	})
	if reads < 50 {
		t.Error("P4.4: too few texts were read:", reads)
	}
}
