package sat_test

import (
	"math/big"
	"slices"
	"strconv"
	"strings"
	"testing"

	"bocage/api"
	"bocage/sat"
)

// someNumbers are those around 0, both ends, their halves and tenths, and the powers of ten, rising.
func someNumbers() []int64 {
	var l []int64
	for _, middle := range []int64{0, sat.Least / 2, sat.Greatest / 2, sat.Least / 10, sat.Greatest / 10, -1000, 1000} {
		for by := range int64(13) {
			l = append(l, middle+by-6)
		}
	}
	for by := range int64(13) {
		l = append(l, sat.Least+by, sat.Greatest-by)
	}
	for n := int64(1); n <= sat.Greatest/10; n *= 10 {
		l = append(l, n-1, n, 10*n-1, 10*n, -n, 1-n, -10*n)
	}
	slices.Sort(l)
	return slices.Compact(l)
}

// ended is what a whole number of any size becomes at the ends.
func ended(n *big.Int) int64 {
	switch {
	case n.IsInt64():
		return n.Int64()
	case n.Sign() < 0:
		return sat.Least
	}
	return sat.Greatest
}

func TestEnds(t *testing.T) {
	if int64(sat.Least) != -9223372036854775808 || int64(sat.Greatest) != 9223372036854775807 {
		t.Error("the ends of all numbers:", int64(sat.Least), int64(sat.Greatest))
	}
}

func TestAddSubNegAreWholeNumbersThatEnd(t *testing.T) { // P1.1
	for _, a := range someNumbers() {
		x := big.NewInt(a)
		if got, want := sat.Neg(a), ended(new(big.Int).Neg(x)); got != want {
			t.Errorf("P1.1: Neg(%d) = %d, not %d", a, got, want)
		}
		for _, b := range someNumbers() {
			y := big.NewInt(b)
			if got, want := sat.Add(a, b), ended(new(big.Int).Add(x, y)); got != want {
				t.Errorf("P1.1: Add(%d, %d) = %d, not %d", a, b, got, want)
			}
			if got, want := sat.Sub(a, b), ended(new(big.Int).Sub(x, y)); got != want {
				t.Errorf("P1.1: Sub(%d, %d) = %d, not %d", a, b, got, want)
			}
		}
	}
}

func TestAddSubNegAtTheEnds(t *testing.T) { // P1.1
	for _, x := range []struct {
		what      string
		got, want int64
	}{
		{"Greatest + 1", sat.Add(sat.Greatest, 1), sat.Greatest},
		{"Greatest + Greatest", sat.Add(sat.Greatest, sat.Greatest), sat.Greatest},
		{"Least + -1", sat.Add(sat.Least, -1), sat.Least},
		{"Least + Least", sat.Add(sat.Least, sat.Least), sat.Least},
		{"Least + Greatest", sat.Add(sat.Least, sat.Greatest), -1},
		{"Least - 1", sat.Sub(sat.Least, 1), sat.Least},
		{"Greatest - -1", sat.Sub(sat.Greatest, -1), sat.Greatest},
		{"0 - Least", sat.Sub(0, sat.Least), sat.Greatest},
		{"-1 - Least", sat.Sub(-1, sat.Least), sat.Greatest},
		{"-2 - Least", sat.Sub(-2, sat.Least), sat.Greatest - 1},
		{"Least - Least", sat.Sub(sat.Least, sat.Least), 0},
		{"-Least", sat.Neg(sat.Least), sat.Greatest},
		{"-Greatest", sat.Neg(sat.Greatest), sat.Least + 1},
		{"-0", sat.Neg(0), 0},
	} {
		if x.got != x.want {
			t.Errorf("P1.1: %s is %d, not %d", x.what, x.got, x.want)
		}
	}
}

func TestSumGoesOnFromAnEnd(t *testing.T) { // P1.1
	for i, x := range []struct {
		l    []int64
		want int64
	}{
		{nil, 0},
		{[]int64{}, 0},
		{[]int64{-7}, -7},
		{[]int64{1, 2, -5}, -2},
		{[]int64{sat.Greatest, 1, -1}, sat.Greatest - 1},
		{[]int64{-1, sat.Greatest, 1}, sat.Greatest},
		{[]int64{sat.Least, -1, 1}, sat.Least + 1},
		{[]int64{1, sat.Least, -1}, sat.Least},
		{[]int64{sat.Greatest, sat.Greatest, sat.Least}, -1},
	} {
		before := slices.Clone(x.l)
		if got := sat.Sum(x.l); got != x.want {
			t.Errorf("P1.1: %d: Sum = %d, not %d", i, got, x.want)
		}
		if !slices.Equal(before, x.l) {
			t.Errorf("R5: %d: Sum changed what it was given: %v", i, x.l)
		}
	}
}

func TestTextIsDecimalDigits(t *testing.T) { // P1.2
	for n, want := range map[int64]string{0: "0", 7: "7", -7: "-7", 10: "10", -100: "-100", 1234567890: "1234567890", sat.Greatest: "9223372036854775807", sat.Least: "-9223372036854775808"} {
		if got := sat.Text(n); got != want {
			t.Errorf("P1.2: Text(%d) = %q", n, got)
		}
	}
	for _, n := range someNumbers() {
		if got := sat.Text(n); got != strconv.FormatInt(n, 10) {
			t.Errorf("P1.2: Text(%d) = %q", n, got)
		}
	}
}

func TestReadTakesTheLongestText(t *testing.T) { // P1.2
	for _, x := range []struct {
		s    string
		n    int64
		long int
	}{
		{"12x", 12, 2},
		{"-12-", -12, 3},
		{"-07", 0, 0},
		{"007", 0, 1},
		{"0-", 0, 1},
		{"-", 0, 0},
		{"-0", 0, 0},
		{"--1", 0, 0},
		{"", 0, 0},
		{"x1", 0, 0},
		{" 1", 0, 0},
		{"+1", 0, 0},
		{"1/", 1, 1},
		{"1:", 1, 1},
		{"1\x00", 1, 1},
		{"1\xff", 1, 1},
		{"1٣", 1, 1},
		{"9223372036854775807", sat.Greatest, 19},
		{"92233720368547758070", sat.Greatest, 19},
		{"9223372036854775808", 922337203685477580, 18},
		{"9999999999999999999", 999999999999999999, 18},
		{"18446744073709551617", 1844674407370955161, 19},
		{"-9223372036854775808", sat.Least, 20},
		{"-92233720368547758080", sat.Least, 20},
		{"-9223372036854775809", -922337203685477580, 19},
		{strings.Repeat("1", 1000), 1111111111111111111, 19},
		{strings.Repeat("0", 1000), 0, 1},
	} {
		if n, long := sat.Read(x.s); n != x.n || long != x.long {
			t.Errorf("P1.2: Read(%q) = %d, %d, not %d, %d", x.s, n, long, x.n, x.long)
		}
	}
}

func TestParseRefusesAllElse(t *testing.T) { // P1.2
	for _, s := range []string{"", "-", "-0", "-00", "-01", "00", "01", "+0", "+1", " 1", "1 ", "1x", "x", "1-", "--1", "1_0", "0x1", "1e3", "1.0", "1\n", "1\x00", "\xff", "٣", "−1", "9223372036854775808", "-9223372036854775809", "18446744073709551616", "99999999999999999999999999"} {
		if n, e := sat.Parse(s); n != 0 || e != api.ErrSatForm {
			t.Errorf("P1.2: Parse(%q) = %d, %d", s, n, e)
		}
	}
	for s, want := range map[string]int64{"0": 0, "-1": -1, "10": 10, "-120": -120, "9223372036854775807": sat.Greatest, "-9223372036854775808": sat.Least} {
		if n, e := sat.Parse(s); n != want || e != api.OK {
			t.Errorf("P1.2: Parse(%q) = %d, %d", s, n, e)
		}
	}
}

// isText tells, by the library alone, whether s is some number's text.
func isText(s string) (int64, bool) {
	n, err := strconv.ParseInt(s, 10, 64)
	if err != nil || strconv.FormatInt(n, 10) != s {
		return 0, false
	}
	return n, true
}

// holdAgainstLibrary holds Read and Parse of s against isText of each beginning.
func holdAgainstLibrary(t *testing.T, s string) {
	t.Helper()
	var n int64
	long := 0
	for i := range len(s) + 1 {
		if m, is := isText(s[:i]); is {
			n, long = m, i
		}
	}
	if m, l := sat.Read(s); m != n || l != long {
		t.Errorf("P1.2: Read(%q) = %d, %d, not %d, %d", s, m, l, n, long)
	}
	want, e := n, api.OK
	if _, is := isText(s); !is {
		want, e = 0, api.ErrSatForm
	}
	if m, f := sat.Parse(s); m != want || f != e {
		t.Errorf("P1.2: Parse(%q) = %d, %d, not %d, %d", s, m, f, want, e)
	}
}

func TestReadAndParseOfAllShortTexts(t *testing.T) { // P1.2
	texts := []string{""}
	for start := 0; len(texts[start]) < 5; start++ {
		for _, sign := range []byte("-+019x ") {
			texts = append(texts, texts[start]+string(sign))
		}
	}
	for _, s := range texts {
		holdAgainstLibrary(t, s)
	}
}

func TestReadAndParseAroundTheEnds(t *testing.T) { // P1.2
	for _, end := range []*big.Int{big.NewInt(sat.Least), big.NewInt(sat.Greatest), new(big.Int).Lsh(big.NewInt(1), 64), big.NewInt(0)} {
		for by := range int64(41) {
			s := new(big.Int).Add(end, big.NewInt(by-20)).String()
			for _, behind := range []string{"", "0", "5", "9", "-", "x"} {
				holdAgainstLibrary(t, s+behind)
			}
		}
	}
}

func TestCeilIsTheNextMultiple(t *testing.T) { // P1.3
	for _, x := range []struct {
		n, step, want int64
		is            bool
	}{
		{5, 4, 8, true},
		{8, 4, 8, true},
		{9, 4, 12, true},
		{-7, 4, -4, true},
		{-8, 4, -8, true},
		{-3, 4, 0, true},
		{0, 7, 0, true},
		{1, sat.Greatest, sat.Greatest, true},
		{-1, sat.Greatest, 0, true},
		{sat.Greatest, sat.Greatest, sat.Greatest, true},
		{sat.Greatest, 1, sat.Greatest, true},
		{sat.Greatest, 2, 0, false},
		{sat.Greatest - 1, 2, sat.Greatest - 1, true},
		{sat.Greatest, 1 << 62, 0, false},
		{1 << 62, 1 << 62, 1 << 62, true},
		{1<<62 + 1, 1 << 62, 0, false},
		{sat.Least, 1, sat.Least, true},
		{sat.Least, 2, sat.Least, true},
		{sat.Least, 3, sat.Least + 2, true},
		{sat.Least, sat.Greatest, -sat.Greatest, true},
		{5, 0, 0, false},
		{0, 0, 0, false},
		{5, -1, 0, false},
		{8, -4, 0, false},
		{sat.Least, sat.Least, 0, false},
		{sat.Least, -1, 0, false},
	} {
		if n, is := sat.Ceil(x.n, x.step); n != x.want || is != x.is {
			t.Errorf("P1.3: Ceil(%d, %d) = %d, %v, not %d, %v", x.n, x.step, n, is, x.want, x.is)
		}
	}
}

// nextMultiple is Ceil in whole numbers of any size.
func nextMultiple(n, step int64) (int64, bool) {
	if step < 1 {
		return 0, false
	}
	wide := big.NewInt(step)
	rest := new(big.Int).Mod(new(big.Int).Neg(big.NewInt(n)), wide)
	next := rest.Add(rest, big.NewInt(n))
	if !next.IsInt64() {
		return 0, false
	}
	return next.Int64(), true
}

func TestCeilOfManyNumbers(t *testing.T) { // P1.3
	for _, n := range someNumbers() {
		for _, step := range someNumbers() {
			want, may := nextMultiple(n, step)
			if got, is := sat.Ceil(n, step); got != want || is != may {
				t.Errorf("P1.3: Ceil(%d, %d) = %d, %v, not %d, %v", n, step, got, is, want, may)
			}
		}
	}
}

func TestParseOfTextIsTheNumber(t *testing.T) { // P1.4
	for _, n := range someNumbers() {
		if m, e := sat.Parse(sat.Text(n)); m != n || e != api.OK {
			t.Errorf("P1.4: Parse(Text(%d)) = %d, %d", n, m, e)
		}
	}
}

func TestGreaterOnesHaveNoLesserSum(t *testing.T) { // P1.4
	l := someNumbers()
	for _, a := range l {
		for i := range len(l) - 1 {
			if low, high := sat.Add(a, l[i]), sat.Add(a, l[i+1]); low > high {
				t.Errorf("P1.4: Add(%d, %d) is above Add(%d, %d)", a, l[i], a, l[i+1])
			}
			if low, high := sat.Add(l[i], a), sat.Add(l[i+1], a); low > high {
				t.Errorf("P1.4: Add(%d, %d) is above Add(%d, %d)", l[i], a, l[i+1], a)
			}
			if low, high := sat.Sub(l[i], a), sat.Sub(l[i+1], a); low > high {
				t.Errorf("P1.4: Sub(%d, %d) is above Sub(%d, %d)", l[i], a, l[i+1], a)
			}
			if high, low := sat.Sub(a, l[i]), sat.Sub(a, l[i+1]); low > high {
				t.Errorf("P1.4: Sub(%d, %d) is above Sub(%d, %d)", a, l[i+1], a, l[i])
			}
		}
	}
}

func TestAnEndIsNotComeBackFrom(t *testing.T) { // P1.4
	for _, n := range someNumbers() {
		if n < 0 {
			continue
		}
		if sat.Add(sat.Greatest, n) != sat.Greatest || sat.Add(n, sat.Greatest) != sat.Greatest {
			t.Errorf("P1.4: Greatest and %d", n)
		}
		if sat.Sub(sat.Least, n) != sat.Least {
			t.Errorf("P1.4: Least without %d", n)
		}
		if m := -n; sat.Add(sat.Least, m) != sat.Least || sat.Add(m, sat.Least) != sat.Least || sat.Sub(sat.Greatest, m) != sat.Greatest {
			t.Errorf("P1.4: %d", m)
		}
	}
}
