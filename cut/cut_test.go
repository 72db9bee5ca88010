package cut_test

import (
	"math"
	"math/big"
	"math/rand"
	"slices"
	"strconv"
	"testing"

	"bocage/api"
	"bocage/cut"
	"bocage/sat"
)

func at(n int64) api.Cut { return api.Cut{At: n} }

func first() api.Cut { return api.Cut{Side: -1} }

func last() api.Cut { return api.Cut{Side: 1} }

// someNumbers are those around 0, 1000 and both ends, rising.
func someNumbers() []int64 {
	var l []int64
	for by := range int64(9) {
		l = append(l, by-4, 996+by, -1004+by, sat.Least+by, sat.Greatest-by, sat.Least/2+by-4, sat.Greatest/2+by-4)
	}
	slices.Sort(l)
	return slices.Compact(l)
}

// rightCuts are First, one ahead of each of someNumbers but sat.Least, and Last: each place once, rising.
func rightCuts() []api.Cut {
	l := []api.Cut{first()}
	for _, n := range someNumbers() {
		if n != sat.Least {
			l = append(l, at(n))
		}
	}
	return append(l, last())
}

// wrongCuts are cuts that are not right, each with the right one of its place.
func wrongCuts() map[api.Cut]api.Cut {
	wrong := map[api.Cut]api.Cut{at(sat.Least): first()}
	for _, n := range someNumbers() {
		for _, far := range []int{2, 3, 7, math.MaxInt} {
			wrong[api.Cut{Side: -far, At: n}] = first()
			wrong[api.Cut{Side: far, At: n}] = last()
		}
		wrong[api.Cut{Side: math.MinInt, At: n}] = first()
		if n != 0 {
			wrong[api.Cut{Side: -1, At: n}] = first()
			wrong[api.Cut{Side: 1, At: n}] = last()
		}
	}
	return wrong
}

// place is where a right cut stands: twice the number behind it, less 1, in whole numbers of any size. (Last stands ahead of 2^63.)
func place(c api.Cut) *big.Int {
	behind := big.NewInt(c.At)
	switch c {
	case first():
		behind = big.NewInt(sat.Least)
	case last():
		behind = new(big.Int).Add(big.NewInt(sat.Greatest), big.NewInt(1))
	}
	return behind.Sub(behind.Lsh(behind, 1), big.NewInt(1))
}

// numberPlace is where a number stands among the cuts' places.
func numberPlace(n int64) *big.Int { return new(big.Int).Lsh(big.NewInt(n), 1) }

func TestRightAndCanonOfRightCuts(t *testing.T) { // P2.1
	for _, c := range rightCuts() {
		if !cut.Right(c) || cut.Canon(c) != c {
			t.Errorf("P2.1: %v: Right %v, Canon %v", c, cut.Right(c), cut.Canon(c))
		}
	}
	if cut.First() != first() || cut.Last() != last() {
		t.Error("P2.1: First, Last:", cut.First(), cut.Last())
	}
}

func TestRightAndCanonOfWrongCuts(t *testing.T) { // P2.1
	for c, want := range wrongCuts() {
		if cut.Right(c) || cut.Canon(c) != want {
			t.Errorf("P2.1: %v: Right %v, Canon %v, not %v", c, cut.Right(c), cut.Canon(c), want)
		}
	}
}

func TestAheadAndBehindANumber(t *testing.T) { // P2.1
	for _, x := range []struct {
		n             int64
		ahead, behind api.Cut
	}{
		{3, at(3), at(4)},
		{0, at(0), at(1)},
		{-1, at(-1), at(0)},
		{sat.Least, first(), at(sat.Least + 1)},
		{sat.Least + 1, at(sat.Least + 1), at(sat.Least + 2)},
		{sat.Greatest - 1, at(sat.Greatest - 1), at(sat.Greatest)},
		{sat.Greatest, at(sat.Greatest), last()},
	} {
		if a, b := cut.Ahead(x.n), cut.Behind(x.n); a != x.ahead || b != x.behind {
			t.Errorf("P2.1: %d: Ahead %v, Behind %v", x.n, a, b)
		}
	}
	for _, n := range someNumbers() {
		a, b := cut.Ahead(n), cut.Behind(n)
		if !cut.Right(a) || !cut.Right(b) {
			t.Errorf("P2.1: %d: not right: %v, %v", n, a, b)
		}
		one, here := big.NewInt(1), numberPlace(n)
		if new(big.Int).Add(place(a), one).Cmp(here) != 0 || new(big.Int).Sub(place(b), one).Cmp(here) != 0 {
			t.Errorf("P2.1: %d: not beside it: %v, %v", n, a, b)
		}
	}
}

func TestCompareLeastGreatestOfTwo(t *testing.T) { // P2.2
	l := rightCuts()
	for i, a := range l {
		for k, b := range l {
			if got, want := cut.Compare(a, b), place(a).Cmp(place(b)); got != want {
				t.Errorf("P2.2: Compare(%v, %v) = %d, not %d", a, b, got, want)
			}
			if cut.Least(a, b) != l[min(i, k)] || cut.Greatest(a, b) != l[max(i, k)] {
				t.Errorf("P2.2: of %v, %v: Least %v, Greatest %v", a, b, cut.Least(a, b), cut.Greatest(a, b))
			}
		}
	}
}

func TestLeastAndGreatestOfMany(t *testing.T) { // P2.2
	if cut.Least() != last() || cut.Greatest() != first() {
		t.Error("P2.2: of none:", cut.Least(), cut.Greatest())
	}
	for _, c := range rightCuts() {
		if cut.Least(c) != c || cut.Greatest(c) != c {
			t.Errorf("P2.2: of %v alone: %v, %v", c, cut.Least(c), cut.Greatest(c))
		}
	}
	chance := rand.New(rand.NewSource(2))
	all := rightCuts()
	for range 1000 {
		var l []api.Cut
		for range 1 + chance.Intn(6) {
			l = append(l, all[chance.Intn(len(all))])
		}
		byPlace := func(a, b api.Cut) int { return place(a).Cmp(place(b)) }
		least, greatest := slices.MinFunc(l, byPlace), slices.MaxFunc(l, byPlace)
		if cut.Least(l...) != least || cut.Greatest(l...) != greatest {
			t.Errorf("P2.2: of %v: Least %v, Greatest %v", l, cut.Least(l...), cut.Greatest(l...))
		}
	}
}

func TestNextAndPrev(t *testing.T) { // P2.2
	for _, x := range []struct {
		c          api.Cut
		next, prev int64
		has, had   bool
	}{
		{first(), sat.Least, 0, true, false},
		{last(), 0, sat.Greatest, false, true},
		{at(3), 3, 2, true, true},
		{at(0), 0, -1, true, true},
		{at(sat.Least + 1), sat.Least + 1, sat.Least, true, true},
		{at(sat.Greatest), sat.Greatest, sat.Greatest - 1, true, true},
		{at(sat.Least), sat.Least, 0, true, false},
		{api.Cut{Side: -1, At: 5}, sat.Least, 0, true, false},
		{api.Cut{Side: 9, At: 5}, 0, sat.Greatest, false, true},
	} {
		if n, is := cut.Next(x.c); n != x.next || is != x.has {
			t.Errorf("P2.2: Next(%v) = %d, %v", x.c, n, is)
		}
		if n, is := cut.Prev(x.c); n != x.prev || is != x.had {
			t.Errorf("P2.2: Prev(%v) = %d, %v", x.c, n, is)
		}
	}
}

func TestShiftAtTheEnds(t *testing.T) { // P2.2
	for _, x := range []struct {
		c    api.Cut
		by   int64
		want api.Cut
		is   bool
	}{
		{at(3), -5, at(-2), true},
		{at(3), 0, at(3), true},
		{first(), 9, first(), true},
		{first(), sat.Greatest, first(), true},
		{last(), sat.Least, last(), true},
		{last(), -1, last(), true},
		{at(sat.Least), 1, first(), true},
		{api.Cut{Side: -3, At: 4}, 1, first(), true},
		{api.Cut{Side: 1, At: 4}, 1, last(), true},
		{at(sat.Greatest), 0, at(sat.Greatest), true},
		{at(sat.Greatest), 1, api.Cut{}, false},
		{at(sat.Greatest), sat.Greatest, api.Cut{}, false},
		{at(sat.Greatest - 1), 1, at(sat.Greatest), true},
		{at(sat.Greatest - 1), 2, api.Cut{}, false},
		{at(1), sat.Greatest, api.Cut{}, false},
		{at(0), sat.Greatest, at(sat.Greatest), true},
		{at(sat.Least + 1), 0, at(sat.Least + 1), true},
		{at(sat.Least + 1), -1, api.Cut{}, false},
		{at(sat.Least + 1), -2, api.Cut{}, false},
		{at(sat.Least + 1), sat.Least, api.Cut{}, false},
		{at(sat.Least + 2), -1, at(sat.Least + 1), true},
		{at(0), sat.Least, api.Cut{}, false},
		{at(-1), sat.Least, api.Cut{}, false},
		{at(1), sat.Least, at(sat.Least + 1), true},
		{at(sat.Greatest), sat.Least, at(-1), true},
		{at(sat.Least + 1), sat.Greatest, at(0), true},
	} {
		if c, is := cut.Shift(x.c, x.by); c != x.want || is != x.is {
			t.Errorf("P2.2: Shift(%v, %d) = %v, %v, not %v, %v", x.c, x.by, c, is, x.want, x.is)
		}
	}
}

// shifted is Shift of a right cut, in whole numbers of any size.
func shifted(c api.Cut, by int64) (api.Cut, bool) {
	if c.Side != 0 {
		return c, true
	}
	to := new(big.Int).Add(big.NewInt(c.At), big.NewInt(by))
	if !to.IsInt64() || to.Int64() == sat.Least {
		return api.Cut{}, false
	}
	return at(to.Int64()), true
}

func TestShiftByManyNumbers(t *testing.T) { // P2.2
	for _, c := range rightCuts() {
		for _, by := range someNumbers() {
			want, may := shifted(c, by)
			if got, is := cut.Shift(c, by); got != want || is != may {
				t.Errorf("P2.2: Shift(%v, %d) = %v, %v, not %v, %v", c, by, got, is, want, may)
			}
		}
	}
}

func TestSortIsRisingEachOnce(t *testing.T) { // P2.2
	for i, x := range []struct{ l, want []api.Cut }{
		{nil, nil},
		{[]api.Cut{}, nil},
		{[]api.Cut{at(5)}, []api.Cut{at(5)}},
		{[]api.Cut{at(5), at(5), at(5)}, []api.Cut{at(5)}},
		{[]api.Cut{at(5), last(), at(sat.Least), at(-1), first(), at(5)}, []api.Cut{first(), at(-1), at(5), last()}},
		{[]api.Cut{{Side: 4, At: 1}, last(), {Side: -1, At: 6}, {Side: -9}}, []api.Cut{first(), last()}},
		{[]api.Cut{at(sat.Greatest), at(-7), at(sat.Least + 1), at(10), at(9)}, []api.Cut{at(sat.Least + 1), at(-7), at(9), at(10), at(sat.Greatest)}},
	} {
		before := slices.Clone(x.l)
		if got := cut.Sort(x.l); !slices.Equal(got, x.want) {
			t.Errorf("P2.2: %d: Sort = %v, not %v", i, got, x.want)
		}
		if !slices.Equal(before, x.l) {
			t.Errorf("R5: %d: Sort changed what it was given: %v", i, x.l)
		}
	}
}

func TestSortOfManyOrders(t *testing.T) { // P2.2
	all := rightCuts()
	chance := rand.New(rand.NewSource(22))
	for range 200 {
		l := slices.Concat(all, all[:chance.Intn(len(all))])
		chance.Shuffle(len(l), func(i, k int) { l[i], l[k] = l[k], l[i] })
		before := slices.Clone(l)
		got := cut.Sort(l)
		if !slices.Equal(got, all) {
			t.Fatalf("P2.2: Sort(%v) = %v", l, got)
		}
		if !slices.Equal(before, l) {
			t.Fatal("R5: Sort changed what it was given")
		}
		clear(got)
		if !slices.Equal(before, l) {
			t.Fatal("R6: Sort's answer shares memory with what it was given")
		}
	}
}

func TestVariadicCutsStayAsTheyWere(t *testing.T) { // R5
	l := []api.Cut{at(sat.Least), {Side: -4, At: 4}, at(7), {Side: 3}}
	before := slices.Clone(l)
	cut.Least(l...)
	cut.Greatest(l...)
	if !slices.Equal(before, l) {
		t.Error("R5: Least or Greatest changed what it was given:", l)
	}
}

func TestWrongCutsAreTakenAsRightOnes(t *testing.T) { // P2.2, P2.3
	for c, right := range wrongCuts() {
		for _, other := range []api.Cut{first(), at(sat.Least + 1), at(0), at(sat.Greatest), last(), c} {
			b := cut.Canon(other)
			if cut.Compare(c, other) != cut.Compare(right, b) || cut.Compare(other, c) != cut.Compare(b, right) {
				t.Errorf("P2.2: Compare of %v and %v", c, other)
			}
			if got := cut.Least(c, other); got != cut.Least(right, b) || !cut.Right(got) {
				t.Errorf("P2.2: Least(%v, %v) = %v", c, other, got)
			}
			if got := cut.Greatest(other, c); got != cut.Greatest(b, right) || !cut.Right(got) {
				t.Errorf("P2.2: Greatest(%v, %v) = %v", other, c, got)
			}
		}
		n, has := cut.Next(c)
		m, want := cut.Next(right)
		if n != m || has != want {
			t.Errorf("P2.2: Next(%v) = %d, %v", c, n, has)
		}
		n, has = cut.Prev(c)
		m, want = cut.Prev(right)
		if n != m || has != want {
			t.Errorf("P2.2: Prev(%v) = %d, %v", c, n, has)
		}
		if to, is := cut.Shift(c, -3); to != right || !is {
			t.Errorf("P2.2: Shift(%v, -3) = %v, %v", c, to, is)
		}
		if cut.Text(c) != cut.Text(right) {
			t.Errorf("P2.3: Text(%v) = %q", c, cut.Text(c))
		}
	}
}

func TestTextOfCuts(t *testing.T) { // P2.3
	for c, want := range map[api.Cut]string{first(): "-inf", last(): "+inf", at(sat.Least): "-inf", at(0): "0", at(-7): "-7", at(12): "12", at(sat.Least + 1): "-9223372036854775807", at(sat.Greatest): "9223372036854775807", {Side: -2, At: 5}: "-inf", {Side: 1, At: 5}: "+inf"} {
		if got := cut.Text(c); got != want {
			t.Errorf("P2.3: Text(%v) = %q, not %q", c, got, want)
		}
	}
}

func TestReadTakesTheLongestText(t *testing.T) { // P2.3
	for _, x := range []struct {
		s    string
		c    api.Cut
		long int
	}{
		{"+info", last(), 4},
		{"-info", first(), 4},
		{"-inf-inf", first(), 4},
		{"+inf", last(), 4},
		{"-inf", first(), 4},
		{"7)", at(7), 1},
		{"-7,9", at(-7), 2},
		{"0", at(0), 1},
		{"007", at(0), 1},
		{"12inf", at(12), 2},
		{"9223372036854775807", at(sat.Greatest), 19},
		{"9223372036854775808", at(922337203685477580), 18},
		{"-9223372036854775807", at(sat.Least + 1), 20},
		{"-9223372036854775808", at(-922337203685477580), 19},
		{"-92233720368547758080", at(-922337203685477580), 19},
		{"-9223372036854775808)", at(-922337203685477580), 19},
		{"-9223372036854775809", at(-922337203685477580), 19},
		{"", api.Cut{}, 0},
		{"-", api.Cut{}, 0},
		{"+", api.Cut{}, 0},
		{"-0", api.Cut{}, 0},
		{"-00", api.Cut{}, 0},
		{"+1", api.Cut{}, 0},
		{"+0", api.Cut{}, 0},
		{"-in", api.Cut{}, 0},
		{"+in", api.Cut{}, 0},
		{"inf", api.Cut{}, 0},
		{"-Inf", api.Cut{}, 0},
		{"+INF", api.Cut{}, 0},
		{" -inf", api.Cut{}, 0},
		{" 1", api.Cut{}, 0},
		{"x", api.Cut{}, 0},
		{"--1", api.Cut{}, 0},
		{"\xff1", api.Cut{}, 0},
	} {
		if c, long := cut.Read(x.s); c != x.c || long != x.long {
			t.Errorf("P2.3: Read(%q) = %v, %d, not %v, %d", x.s, c, long, x.c, x.long)
		}
	}
}

// isText tells, by the library alone, whether s is some cut's text.
func isText(s string) (api.Cut, bool) {
	switch s {
	case "-inf":
		return first(), true
	case "+inf":
		return last(), true
	}
	n, err := strconv.ParseInt(s, 10, 64)
	if err != nil || n == sat.Least || strconv.FormatInt(n, 10) != s {
		return api.Cut{}, false
	}
	return at(n), true
}

// holdAgainstLibrary holds Read of s against isText of each beginning.
func holdAgainstLibrary(t *testing.T, s string) {
	t.Helper()
	var want api.Cut
	long := 0
	for i := range len(s) + 1 {
		if c, is := isText(s[:i]); is {
			want, long = c, i
		}
	}
	if c, l := cut.Read(s); c != want || l != long {
		t.Errorf("P2.3: Read(%q) = %v, %d, not %v, %d", s, c, l, want, long)
	}
}

func TestReadOfAllShortTexts(t *testing.T) { // P2.3
	texts := []string{""}
	for start := 0; len(texts[start]) < 5; start++ {
		for _, sign := range []byte("-+01inf") {
			texts = append(texts, texts[start]+string(sign))
		}
	}
	for _, s := range texts {
		holdAgainstLibrary(t, s)
	}
}

func TestReadAroundTheEnds(t *testing.T) { // P2.3
	for _, end := range []*big.Int{big.NewInt(sat.Least), big.NewInt(sat.Greatest), big.NewInt(0)} {
		for by := range int64(41) {
			s := new(big.Int).Add(end, big.NewInt(by-20)).String()
			for _, behind := range []string{"", "0", "9", "-", "x", "-inf", "+inf"} {
				holdAgainstLibrary(t, s+behind)
			}
		}
	}
}

func TestNumbersBesideACutLeadBackToIt(t *testing.T) { // P2.4
	for _, c := range rightCuts() {
		n, has := cut.Next(c)
		if has == (c == last()) || has && (cut.Ahead(n) != c || numberPlace(n).Cmp(place(c)) <= 0) {
			t.Errorf("P2.4: Next(%v) = %d, %v", c, n, has)
		}
		n, has = cut.Prev(c)
		if has == (c == first()) || has && (cut.Behind(n) != c || numberPlace(n).Cmp(place(c)) >= 0) {
			t.Errorf("P2.4: Prev(%v) = %d, %v", c, n, has)
		}
	}
	for _, n := range someNumbers() {
		if m, is := cut.Next(cut.Ahead(n)); m != n || !is {
			t.Errorf("P2.4: Next(Ahead(%d)) = %d, %v", n, m, is)
		}
		if m, is := cut.Prev(cut.Behind(n)); m != n || !is {
			t.Errorf("P2.4: Prev(Behind(%d)) = %d, %v", n, m, is)
		}
	}
}

func TestReadOfTextIsTheCut(t *testing.T) { // P2.4
	for _, c := range rightCuts() {
		s := cut.Text(c)
		for _, behind := range []string{"", ")", ",-inf", " ", "x"} {
			if got, long := cut.Read(s + behind); got != c || long != len(s) {
				t.Errorf("P2.4: Read(%q) = %v, %d, not %v", s+behind, got, long, c)
			}
		}
	}
	for c, right := range wrongCuts() {
		if got, long := cut.Read(cut.Text(c)); got != right || long != len(cut.Text(c)) {
			t.Errorf("P2.4: Read(Text(%v)) = %v, %d", c, got, long)
		}
	}
}
