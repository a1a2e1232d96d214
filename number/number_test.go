package number_test

import (
	"math"
	"math/rand"
	"strconv"
	"strings"
	"testing"

	"groupcontrol/api"
	"groupcontrol/number"
)

type row struct {
	s string
	n int
	e api.Errno
}

func TestP2_1Parse(t *testing.T) {
	for _, x := range []row{
		{"max", api.Max, api.OK},
		{"0", 0, api.OK}, {"9", 9, api.OK}, {"012", 12, api.OK}, {"00000000000000000000000000007", 7, api.OK},
		{"12K", 12288, api.OK}, {"1M", 1 << 20, api.OK}, {"3G", 3 << 30, api.OK}, {"1T", 1 << 40, api.OK}, {"0T", 0, api.OK}, {"0K", 0, api.OK},
		{"1099511627776", 1 << 40, api.OK}, {"1099511627777", 0, api.ErrRange}, {"1099511627775", 1<<40 - 1, api.OK},
		{"1024G", 1 << 40, api.OK}, {"1025G", 0, api.ErrRange}, {"1048576M", 1 << 40, api.OK}, {"1048577M", 0, api.ErrRange},
		{"1073741824K", 1 << 40, api.OK}, {"1073741825K", 0, api.ErrRange}, {"2T", 0, api.ErrRange},
		{"9223372036854775808", 0, api.ErrRange}, {"18446744073709551617", 0, api.ErrRange}, {strings.Repeat("9", 1000), 0, api.ErrRange},
		{strings.Repeat("9", 1000) + "T", 0, api.ErrRange}, {strings.Repeat("0", 1000) + "1T", 1 << 40, api.OK},
		{strings.Repeat("9", 1000) + "x", 0, api.ErrText},
		{"", 0, api.ErrText}, {"K", 0, api.ErrText}, {"T", 0, api.ErrText}, {"1KK", 0, api.ErrText}, {"1k", 0, api.ErrText}, {"K1", 0, api.ErrText},
		{"1P", 0, api.ErrText}, {"-1", 0, api.ErrText}, {"+1", 0, api.ErrText}, {" 1", 0, api.ErrText}, {"1 ", 0, api.ErrText}, {"1\n", 0, api.ErrText},
		{"Max", 0, api.ErrText}, {"maxK", 0, api.ErrText}, {"max ", 0, api.ErrText}, {"1.5", 0, api.ErrText}, {"0x10", 0, api.ErrText},
		{"1_000", 0, api.ErrText}, {"٣", 0, api.ErrText}, {"1\xff", 0, api.ErrText}, {"/", 0, api.ErrText}, {":", 0, api.ErrText},
	} {
		if n, e := number.Parse(x.s); n != x.n || e != x.e {
			t.Errorf("Parse(%.30q) = %d, %v", x.s, n, e)
		}
	}
}

func TestP2_1Format(t *testing.T) {
	for _, x := range []row{
		{"max", api.Max, api.OK}, {"0", 0, api.OK}, {"7", 7, api.OK}, {"1024", 1024, api.OK}, {"1099511627776", api.MaxValue, api.OK},
		{"", api.MaxValue + 1, api.ErrRange}, {"", -1, api.ErrRange}, {"", api.Max - 1, api.ErrRange}, {"", api.Max + 1, api.ErrRange},
		{"", math.MinInt, api.ErrRange}, {"", math.MaxInt, api.ErrRange},
	} {
		if s, e := number.Format(x.n); s != x.s || e != x.e {
			t.Errorf("Format(%d) = %q, %v", x.n, s, e)
		}
	}
}

func TestP2_2Hundredths(t *testing.T) {
	for _, x := range []row{
		{"max", 10000, api.OK}, {"0", 0, api.OK}, {"5", 500, api.OK}, {"12.5", 1250, api.OK}, {"12.05", 1205, api.OK}, {"12.55", 1255, api.OK},
		{"0.01", 1, api.OK}, {"0.1", 10, api.OK}, {"99.99", 9999, api.OK}, {"100", 10000, api.OK}, {"100.0", 10000, api.OK}, {"100.00", 10000, api.OK},
		{"007.10", 710, api.OK}, {strings.Repeat("0", 500) + "1", 100, api.OK},
		{"100.01", 0, api.ErrRange}, {"100.1", 0, api.ErrRange}, {"101", 0, api.ErrRange}, {"101.00", 0, api.ErrRange}, {strings.Repeat("9", 500), 0, api.ErrRange},
		{"92233720368547759", 0, api.ErrRange}, {"184467440737095517.16", 0, api.ErrRange},
		{"", 0, api.ErrText}, {".", 0, api.ErrText}, {".5", 0, api.ErrText}, {"5.", 0, api.ErrText}, {"5.123", 0, api.ErrText}, {"5.1.1", 0, api.ErrText},
		{"5.1K", 0, api.ErrText}, {"5K", 0, api.ErrText}, {"-5", 0, api.ErrText}, {"5.-1", 0, api.ErrText}, {"5,5", 0, api.ErrText}, {" 5", 0, api.ErrText},
		{"5\n", 0, api.ErrText}, {"MAX", 0, api.ErrText}, {"max.0", 0, api.ErrText}, {"101.x", 0, api.ErrText}, {"101.123", 0, api.ErrText}, {"1\xff", 0, api.ErrText},
	} {
		if n, e := number.Hundredths(x.s); n != x.n || e != x.e {
			t.Errorf("Hundredths(%.30q) = %d, %v", x.s, n, e)
		}
	}
}

func TestP2_2FormatHundredths(t *testing.T) {
	for _, x := range []row{
		{"max", 10000, api.OK}, {"0.00", 0, api.OK}, {"0.01", 1, api.OK}, {"0.10", 10, api.OK}, {"1.00", 100, api.OK}, {"12.05", 1205, api.OK}, {"99.99", 9999, api.OK},
		{"", 10001, api.ErrRange}, {"", -1, api.ErrRange}, {"", api.Max, api.ErrRange}, {"", math.MinInt, api.ErrRange},
	} {
		if s, e := number.FormatHundredths(x.n); s != x.s || e != x.e {
			t.Errorf("FormatHundredths(%d) = %q, %v", x.n, s, e)
		}
	}
	for n := 0; n <= 10000; n++ {
		s, _ := number.FormatHundredths(n)
		if k, e := number.Hundredths(s); k != n || e != api.OK {
			t.Fatalf("%d: %q is read as %d", n, s, k)
		}
	}
}

func TestP2_3(t *testing.T) {
	for n, want := range map[int]int{0: 0, 5: 5, -1: 0, math.MinInt: 0, api.MaxValue - 1: api.MaxValue - 1, api.MaxValue: api.MaxValue, api.MaxValue + 1: api.MaxValue, api.Max - 1: api.MaxValue, api.Max: api.Max, api.Max + 1: api.Max, math.MaxInt: api.Max} {
		if got := number.Clip(n); got != want {
			t.Errorf("Clip(%d) = %d", n, got)
		}
	}
	for _, x := range [][3]int{
		{1, 2, 3}, {0, 0, 0}, {-5, 7, 7}, {7, -5, 7}, {-5, -5, 0}, {math.MinInt, math.MinInt, 0},
		{api.MaxValue, 0, api.MaxValue}, {api.MaxValue - 1, 1, api.MaxValue}, {api.MaxValue - 1, 2, api.MaxValue}, {api.MaxValue, api.MaxValue, api.MaxValue},
		{api.Max - 1, 1, api.MaxValue}, {api.Max, 0, api.Max}, {0, api.Max, api.Max}, {api.Max, -5, api.Max}, {api.Max, api.Max, api.Max}, {math.MaxInt, math.MaxInt, api.Max}, {-5, math.MaxInt, api.Max},
	} {
		if got := number.Add(x[0], x[1]); got != x[2] {
			t.Errorf("Add(%d, %d) = %d", x[0], x[1], got)
		}
	}
}

// TestConsequences checks the laws of chapter 2.
func TestConsequences(t *testing.T) {
	r := rand.New(rand.NewSource(2))
	some := func() int {
		n := r.Intn(1 << r.Intn(62))
		switch r.Intn(6) {
		case 0:
			return -n
		case 1:
			return api.Max - 2 + r.Intn(5)
		case 2:
			return api.MaxValue - 2 + r.Intn(5)
		}
		return n
	}
	for i := 0; i < 20000; i++ {
		a, b, c := some(), some(), some()
		if number.Add(a, b) != number.Add(b, a) || number.Add(number.Add(a, b), c) != number.Add(a, number.Add(b, c)) {
			t.Fatal(a, b, c)
		}
		if a <= c && number.Add(a, b) > number.Add(c, b) {
			t.Fatal(a, b, c)
		}
		s, e := number.Format(number.Clip(a))
		if n, f := number.Parse(s); e != api.OK || f != api.OK || n != number.Clip(a) {
			t.Fatal(a, s, n)
		}
		k := r.Intn(2000000)
		if n, e := number.Parse(strconv.Itoa(k) + "K"); n != 1024*k || e != api.OK {
			t.Fatal(k, n, e)
		}
	}
}
