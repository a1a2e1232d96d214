package sets_test

import (
	"fmt"
	"math"
	"math/rand"
	"slices"
	"strings"
	"testing"
	"time"

	"groupcontrol/api"
	"groupcontrol/sets"
)

func eq(a, b any) bool { return fmt.Sprint(a) == fmt.Sprint(b) }

func TestP3_1(t *testing.T) {
	for i, x := range []struct {
		l    []int
		n    int
		want bool
	}{
		{nil, 0, true}, {nil, -5, true}, {nil, 9, true}, {[]int{0}, 1, true}, {[]int{0}, 0, false}, {[]int{1}, 1, false}, {[]int{0, 1, 5}, 6, true}, {[]int{0, 1, 5}, 5, false},
		{[]int{1, 0}, 6, false}, {[]int{1, 1}, 6, false}, {[]int{-1}, 6, false}, {[]int{-1, 2}, 6, false}, {[]int{math.MinInt, 0}, 6, false}, {[]int{0, 7, 3}, 8, false}, {[]int{9, 3}, 6, false},
		{[]int{100000}, 100001, true}, {[]int{math.MaxInt}, math.MaxInt, false}, {[]int{math.MaxInt - 1}, math.MaxInt, true},
	} {
		if sets.Valid(x.l, x.n) != x.want {
			t.Error(i, x)
		}
	}
	for i, x := range []struct {
		l    []int
		x    int
		want bool
	}{{nil, 0, false}, {[]int{5, 1, 5, -3}, 5, true}, {[]int{5, 1, 5, -3}, 1, true}, {[]int{5, 1, 5, -3}, -3, true}, {[]int{5, 1, 5, -3}, 0, false}, {[]int{1, 3}, 2, false}} {
		if sets.Has(x.l, x.x) != x.want {
			t.Error(i, x)
		}
	}
}

func TestP3_2Parse(t *testing.T) {
	for _, x := range []struct {
		s    string
		n    int
		want []int
		e    api.Errno
	}{
		{"", 0, nil, api.OK}, {"", 16, nil, api.OK}, {"", -1, nil, api.OK}, {"", 65536, nil, api.OK},
		{"0", 1, []int{0}, api.OK}, {"0-2,7,1", 8, []int{0, 1, 2, 7}, api.OK}, {"7,0-2", 8, []int{0, 1, 2, 7}, api.OK}, {"3-3", 4, []int{3}, api.OK},
		{"1-4,2-3,3-6,1", 16, []int{1, 2, 3, 4, 5, 6}, api.OK}, {"5,5,5", 16, []int{5}, api.OK}, {"007,01-002", 16, []int{1, 2, 7}, api.OK}, {"000000001", 16, []int{1}, api.OK},
		{"4-5,1-2", 16, []int{1, 2, 4, 5}, api.OK}, {"1-2,0-9", 10, []int{0, 1, 2, 3, 4, 5, 6, 7, 8, 9}, api.OK}, {"65535", 65536, []int{65535}, api.OK},
		{"0", 0, nil, api.ErrRange}, {"0", -7, nil, api.ErrRange}, {"16", 16, nil, api.ErrRange}, {"1-16", 16, nil, api.ErrRange}, {"3,99,1", 16, nil, api.ErrRange}, {"999999999", 65536, nil, api.ErrRange},
		{",", 16, nil, api.ErrText}, {"1,", 16, nil, api.ErrText}, {",1", 16, nil, api.ErrText}, {"1,,2", 16, nil, api.ErrText}, {"-", 16, nil, api.ErrText}, {"1-", 16, nil, api.ErrText}, {"-1", 16, nil, api.ErrText}, {"1-2-3", 16, nil, api.ErrText},
		{"2-1", 16, nil, api.ErrText}, {"99-98", 16, nil, api.ErrText}, {"99,x", 16, nil, api.ErrText}, {"x", 70000, nil, api.ErrText}, {"0000000001", 16, nil, api.ErrText}, {"1234567890", 16, nil, api.ErrText}, {"1-1234567890", 16, nil, api.ErrText}, {"1000000000-1000000001", 16, nil, api.ErrText},
		{" ", 16, nil, api.ErrText}, {"1, 2", 16, nil, api.ErrText}, {"1\n", 16, nil, api.ErrText}, {"a", 16, nil, api.ErrText}, {"1-b", 16, nil, api.ErrText}, {"+1", 16, nil, api.ErrText}, {"٣", 16, nil, api.ErrText}, {"max", 16, nil, api.ErrText}, {"/", 16, nil, api.ErrText}, {":", 16, nil, api.ErrText},
	} {
		l, e := sets.Parse(x.s, x.n)
		if e != x.e || !eq(l, x.want) {
			t.Errorf("Parse(%q, %d) = %v, %v", x.s, x.n, l, e)
		}
	}
}

// TestP3_2Bound reads with bounds above 65536, which count as 65536.
func TestP3_2Bound(t *testing.T) {
	all := make([]int, 65536)
	for i := range all {
		all[i] = i
	}
	for _, n := range []int{65536, 65537, 70000, 1000000000, api.Max, math.MaxInt} {
		for _, x := range []struct {
			s    string
			want []int
			e    api.Errno
		}{
			{"", nil, api.OK}, {"0", []int{0}, api.OK}, {"65535", []int{65535}, api.OK}, {"3,1-2", []int{1, 2, 3}, api.OK}, {"65534-65535,000065535", []int{65534, 65535}, api.OK}, {"0-65535", all, api.OK},
			{"65536", nil, api.ErrRange}, {"65537", nil, api.ErrRange}, {"65535-65536", nil, api.ErrRange}, {"0-65536", nil, api.ErrRange}, {"70000,1", nil, api.ErrRange}, {"0-999999999", nil, api.ErrRange}, {"999999999", nil, api.ErrRange},
			{",", nil, api.ErrText}, {"1,", nil, api.ErrText}, {"65536,a", nil, api.ErrText}, {"0-999999999,2-1", nil, api.ErrText}, {"1000000000", nil, api.ErrText},
		} {
			l, e := sets.Parse(x.s, n)
			if e != x.e || !eq(l, x.want) {
				t.Errorf("Parse(%q, %d) = %d numbers, %v", x.s, n, len(l), e)
			}
		}
	}
	if l, e := sets.Parse("65535", 65535); e != api.ErrRange || l != nil {
		t.Error("65535 below 65535", l, e)
	}
}

// TestP3_2Long reads a long text whose elements all overlap.
func TestP3_2Long(t *testing.T) {
	begin := time.Now()
	l, e := sets.Parse(strings.Repeat("0-65535,", 200000)+"1", 65536)
	if e != api.OK || len(l) != 65536 || !sets.Valid(l, 65536) || time.Since(begin) > 20*time.Second {
		t.Error(e, len(l))
	}
}

func TestP3_2Format(t *testing.T) {
	for _, x := range []struct {
		l    []int
		want string
		e    api.Errno
	}{
		{nil, "", api.OK}, {[]int{0}, "0", api.OK}, {[]int{0, 1}, "0-1", api.OK}, {[]int{0, 1, 2, 7}, "0-2,7", api.OK}, {[]int{0, 2, 4}, "0,2,4", api.OK}, {[]int{1, 3, 4, 5, 9, 10}, "1,3-5,9-10", api.OK},
		{[]int{1000000, 1000001}, "1000000-1000001", api.OK}, {[]int{math.MaxInt}, "9223372036854775807", api.OK},
		{[]int{-1}, "", api.ErrInvalid}, {[]int{-2, -1, 0}, "", api.ErrInvalid}, {[]int{1, 1}, "", api.ErrInvalid}, {[]int{2, 1}, "", api.ErrInvalid}, {[]int{0, 1, 2, 1}, "", api.ErrInvalid},
	} {
		s, e := sets.Format(x.l)
		if s != x.want || e != x.e {
			t.Errorf("Format(%v) = %q, %v", x.l, s, e)
		}
	}
}

func TestP3_3(t *testing.T) {
	a, b := []int{5, -1, 3, 3, 9}, []int{3, 9, 9, 2}
	for i, x := range []struct{ got, want any }{
		{sets.Union(a, b), []int{-1, 2, 3, 5, 9}}, {sets.Intersect(a, b), []int{3, 9}}, {sets.Minus(a, b), []int{-1, 5}}, {sets.Minus(b, a), []int{2}},
		{sets.Union(nil, nil), []int{}}, {sets.Union(nil, b), []int{2, 3, 9}}, {sets.Union(a, nil), []int{-1, 3, 5, 9}}, {sets.Intersect(nil, b), []int{}}, {sets.Intersect(a, nil), []int{}}, {sets.Minus(nil, b), []int{}}, {sets.Minus(a, nil), []int{-1, 3, 5, 9}},
		{sets.Within(nil, nil), true}, {sets.Within(nil, b), true}, {sets.Within(a, nil), false}, {sets.Within([]int{9, 9, 2}, b), true}, {sets.Within(a, b), false}, {sets.Within([]int{1, 2}, []int{2, 1, 0}), true}, {sets.Within([]int{9, 4}, b), false},
		{a, []int{5, -1, 3, 3, 9}}, {b, []int{3, 9, 9, 2}},
	} {
		if !eq(x.got, x.want) {
			t.Error(i, x.got, x.want)
		}
	}
	// A result shares no memory with an argument.
	c := []int{1, 2, 3}
	for i, l := range [][]int{sets.Union(c, nil), sets.Union(nil, c), sets.Intersect(c, c), sets.Minus(c, nil)} {
		l[0] = 99
		if c[0] != 1 {
			t.Error(i)
		}
		c[0] = 1
	}
}

// TestConsequences compares with tables of truth values.
func TestConsequences(t *testing.T) {
	r := rand.New(rand.NewSource(3))
	some := func() []int {
		var l []int
		for n := r.Intn(12); n > 0; n-- {
			l = append(l, r.Intn(14))
		}
		return l
	}
	for i := 0; i < 5000; i++ {
		a, b := some(), some()
		var union, both, left []int
		within := true
		for x := 0; x < 14; x++ {
			in, on := slices.Contains(a, x), slices.Contains(b, x)
			if in || on {
				union = append(union, x)
			}
			if in && on {
				both = append(both, x)
			}
			if in && !on {
				left, within = append(left, x), false
			}
		}
		if !eq(sets.Union(a, b), union) || !eq(sets.Intersect(a, b), both) || !eq(sets.Minus(a, b), left) || sets.Within(a, b) != within {
			t.Fatal(a, b)
		}
		s, e := sets.Format(union)
		if l, f := sets.Parse(s, 14); e != api.OK || f != api.OK || !eq(l, union) {
			t.Fatal(union, s, l)
		}
	}
}
