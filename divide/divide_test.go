package divide_test

import (
	"fmt"
	"math"
	"math/rand"
	"slices"
	"testing"

	"groupcontrol/divide"
)

func eq(a, b any) bool { return fmt.Sprint(a) == fmt.Sprint(b) }

func fill(n, x int) []int { return slices.Repeat([]int{x}, n) }

func TestP14_1(t *testing.T) {
	for i, x := range []struct {
		total            int
		weights, demands []int
		want             bool
	}{
		{0, nil, nil, true}, {65536, nil, nil, true}, {65537, nil, nil, false}, {-1, nil, nil, false}, {5, []int{1, 10000}, []int{0, 65536}, true}, {5, []int{0}, []int{1}, false}, {5, []int{10001}, []int{1}, false}, {5, []int{1}, []int{-1}, false}, {5, []int{1}, []int{65537}, false}, {5, []int{1, 1}, []int{1}, false}, {5, []int{1}, []int{1, 1}, false}, {5, []int{1, 0}, []int{1, 1}, false}, {5, []int{1, 1}, []int{1, -1}, false},
		{5, fill(64, 1), fill(64, 1), true}, {5, fill(65, 1), fill(65, 1), false}, {5, nil, []int{1}, false},
	} {
		if divide.Valid(x.total, x.weights, x.demands) != x.want {
			t.Error(i)
		}
	}
	w, g := []int{100, 300, 1, 10000, 0, 10001}, []int{0, 2, 65536, 65536, 5, 5, 5}
	for i, x := range []struct{ i, j, want int }{
		{0, 1, 0}, {1, 0, 0}, {0, 0, 0}, {0, 2, -1}, {2, 0, 1}, {2, 3, 1}, {3, 2, -1}, {3, 0, 1}, {0, 3, -1}, {0, 4, 0}, {4, 0, 0}, {0, 5, 0}, {5, 0, 0}, {0, 6, 0}, {6, 0, 0}, {-1, 0, 0}, {0, -1, 0}, {2, 99, 0}, {99, 2, 0}, {math.MinInt, math.MaxInt, 0},
	} {
		if n := divide.Level(w, g, x.i, x.j); n != x.want {
			t.Error(i, n)
		}
	}
	for i, x := range []struct {
		w, g []int
		want int
	}{
		{[]int{100, 300}, []int{0, 1}, 1}, {[]int{100, 300}, []int{0, 3}, -1}, {[]int{100, 300}, []int{-1, 3}, 0}, {[]int{100, 300}, []int{0, -1}, 0}, {[]int{100, 300}, []int{65537, 3}, 0}, {[]int{100, 300}, []int{0, 65537}, 0}, {[]int{100}, []int{0, 5}, 0}, {[]int{100, 300}, []int{5}, 0}, {nil, nil, 0}, {[]int{1, 1}, []int{math.MaxInt, 0}, 0}, {[]int{1, 1}, []int{65536, 0}, 1}, {[]int{1, 1}, []int{0, 65536}, -1}, {[]int{1, 10000}, []int{0, 10000}, -1}, {[]int{10000, 1}, []int{9999, 0}, 0},
	} {
		if n := divide.Level(x.w, x.g, 0, 1); n != x.want {
			t.Error(i, n)
		}
	}
}

func TestP14_2(t *testing.T) {
	for i, x := range []struct {
		w, g, d []int
		want    int
		ok      bool
	}{
		{[]int{100, 300}, []int{0, 0}, []int{9, 9}, 1, true}, {[]int{100, 300}, []int{0, 2}, []int{9, 9}, 0, true}, {[]int{100, 300}, []int{1, 2}, []int{9, 9}, 1, true}, {[]int{100, 300}, []int{0, 2}, []int{0, 9}, 1, true}, {[]int{100, 300}, []int{0, 9}, []int{0, 9}, 0, false}, {[]int{5, 5, 5}, []int{1, 0, 0}, []int{9, 9, 9}, 1, true}, {[]int{5, 5, 5}, []int{1, 1, 1}, []int{1, 2, 2}, 1, true}, {[]int{5, 5, 6}, []int{1, 1, 1}, []int{1, 2, 2}, 2, true}, {[]int{5, 5}, []int{7, 7}, []int{5, 8}, 1, true},
		{nil, nil, nil, 0, false}, {[]int{1}, nil, []int{1}, 0, false}, {[]int{1}, []int{0, 0}, []int{1}, 0, false}, {[]int{1}, []int{0}, nil, 0, false}, {nil, []int{0}, []int{1}, 0, false}, {[]int{1, 0}, []int{0, 0}, []int{1, 1}, 0, false}, {[]int{1, 10001}, []int{0, 0}, []int{1, 1}, 0, false}, {[]int{1, 1}, []int{0, -1}, []int{1, 1}, 0, false}, {[]int{1, 1}, []int{0, 65537}, []int{1, 1}, 0, false}, {[]int{1, 1}, []int{0, 0}, []int{1, -1}, 0, false}, {[]int{1, 1}, []int{0, 0}, []int{1, 65537}, 0, false}, {[]int{1, 10000}, []int{0, 65536}, []int{0, 65536}, 0, false}, {[]int{1, 10000}, []int{0, 65535}, []int{0, 65536}, 1, true},
	} {
		if n, ok := divide.First(x.w, x.g, x.d); n != x.want || ok != x.ok {
			t.Error(i, n, ok)
		}
	}
}

func TestP14_3(t *testing.T) {
	for i, x := range []struct {
		total      int
		w, d, want []int
	}{
		{10, []int{100, 300}, []int{99, 99}, []int{2, 8}}, {10, []int{100, 300}, []int{99, 3}, []int{7, 3}}, {10, []int{100, 300}, []int{1, 3}, []int{1, 3}}, {0, []int{1, 2}, []int{3, 3}, []int{0, 0}}, {5, nil, nil, nil}, {3, []int{7, 7, 7, 7}, fill(4, 9), []int{1, 1, 1, 0}},
		{-1, []int{1}, []int{1}, nil}, {65537, []int{1}, []int{1}, nil}, {5, []int{0}, []int{1}, nil}, {5, []int{1}, []int{1, 1}, nil}, {65536, []int{1, 1}, []int{65536, 65536}, []int{32768, 32768}},
	} {
		if got := divide.Divide(x.total, x.w, x.d); !eq(got, x.want) {
			t.Error(i, got)
		}
	}
}

func TestP14_4(t *testing.T) {
	for i, x := range []struct {
		total         int
		p, w, d, want []int
	}{
		{10, []int{-1, -1}, []int{100, 300}, []int{99, 99}, []int{2, 8}}, {5, nil, nil, nil, nil},
		{12, []int{-1, 0, 0, -1}, []int{100, 1, 2, 200}, []int{0, 9, 9, 99}, []int{4, 1, 3, 8}},
		{12, []int{-1, 0, 0, -1}, []int{100, 1, 2, 200}, []int{77, 1, 2, 99}, []int{3, 1, 2, 9}},
		{12, []int{-1, 0, 1, 2}, []int{100, 1, 2, 200}, []int{77, 1, 2, 5}, []int{5, 5, 5, 5}},
		{40000, []int{-1, 0, 0, -1}, []int{1, 1, 1, 1}, []int{0, 65536, 65536, 65536}, []int{20000, 10000, 10000, 20000}},
		{65536, []int{-1, 0, 0}, []int{1, 1, 1}, []int{0, 40000, 40000}, []int{65536, 32768, 32768}},
		{5, []int{0}, []int{1}, []int{1}, nil}, {5, []int{-2}, []int{1}, []int{1}, nil}, {5, []int{-1, 1}, []int{1, 1}, []int{1, 1}, nil}, {5, []int{-1, 2, -1}, []int{1, 1, 1}, []int{1, 1, 1}, nil}, {5, []int{-1}, []int{1, 1}, []int{1, 1}, nil}, {5, []int{-1, -1, -1}, []int{1, 1}, []int{1, 1}, nil}, {-1, []int{-1}, []int{1}, []int{1}, nil}, {5, []int{-1}, []int{0}, []int{1}, nil}, {5, []int{-1, 0}, []int{1, 1}, []int{-1, 1}, nil},
	} {
		before := fmt.Sprint(x.p, x.w, x.d)
		if got := divide.Tree(x.total, x.p, x.w, x.d); !eq(got, x.want) {
			t.Error(i, got)
		}
		if fmt.Sprint(x.p, x.w, x.d) != before {
			t.Error(i, "an argument was changed")
		}
	}
}

func sum(l []int) int {
	n := 0
	for _, x := range l {
		n += x
	}
	return n
}

// TestConsequences checks the laws of chapter 14.
func TestConsequences(t *testing.T) {
	r := rand.New(rand.NewSource(14))
	for i := 0; i < 3000; i++ {
		n := 1 + r.Intn(6)
		w, d, p := make([]int, n), make([]int, n), make([]int, n)
		for k := range n {
			w[k], d[k], p[k] = 1+r.Intn(1+r.Intn(10000)), r.Intn(60), -1+r.Intn(k+1)
		}
		total := r.Intn(200)
		got := divide.Divide(total, w, d)
		if sum(got) != min(total, sum(d)) {
			t.Fatal(got)
		}
		more := divide.Divide(total+1, w, d)
		k := r.Intn(n)
		wider := slices.Clone(d)
		wider[k]++
		if divide.Divide(total, w, wider)[k] < got[k] {
			t.Fatal("a greater demand took something away")
		}
		for a := range n {
			if more[a] < got[a] || got[a] > d[a] || got[a] < d[a] && got[a] < total*w[a]/sum(w) {
				t.Fatal(total, w, d, got, more)
			}
			for b := range n {
				if got[a] < d[a] && got[b] < d[b] && got[a]*w[b] > (got[b]+1)*w[a] {
					t.Fatal(total, w, d, got)
				}
			}
		}
		have := divide.Tree(total, p, w, d)
		for a := range n {
			var children []int
			for b := range n {
				if p[b] == a {
					children = append(children, have[b])
				}
			}
			if len(children) > 0 && sum(children) != have[a] || have[a] < 0 {
				t.Fatal(p, have)
			}
		}
	}
}
