package cost_test

import (
	"fmt"
	"math"
	"math/rand"
	"slices"
	"testing"

	"groupcontrol/api"
	"groupcontrol/cost"
)

func eq(a, b any) bool { return fmt.Sprint(a) == fmt.Sprint(b) }

type requests = []api.Request

// read returns a read of a group.
func read(group, at, pages int) api.Request {
	return api.Request{Task: 3, Group: group, At: at, Pages: pages, Time: 9}
}

func write(group, at, pages int) api.Request {
	r := read(group, at, pages)
	r.Write = true
	return r
}

func many(n int) requests { return slices.Repeat(requests{read(2, 0, 1)}, n) }

var model = api.Model{ReadBase: 10, ReadPage: 1, WriteBase: 20, WritePage: 2, Seek: 5}

const most = api.MaxPages

func TestP31_1(t *testing.T) {
	for i, x := range []struct {
		m    api.Model
		want bool
	}{
		{model, true}, {api.Model{}, true}, {api.Model{ReadBase: 1000000, ReadPage: 1000000, WriteBase: 1000000, WritePage: 1000000, Seek: 1000000}, true}, {api.Model{ReadBase: -1}, false}, {api.Model{ReadPage: -1}, false}, {api.Model{WriteBase: -1}, false}, {api.Model{WritePage: -1}, false}, {api.Model{Seek: -1}, false}, {api.Model{ReadBase: 1000001}, false}, {api.Model{ReadPage: 1000001}, false}, {api.Model{WriteBase: 1000001}, false}, {api.Model{WritePage: 1000001}, false}, {api.Model{Seek: 1000001}, false},
	} {
		if cost.Valid(x.m) != x.want {
			t.Error(i)
		}
	}
	for i, x := range []struct {
		r    api.Request
		want bool
	}{
		{read(2, 0, 1), true}, {write(1, most-4096, 4096), true}, {api.Request{}, false}, {read(0, 0, 1), false}, {read(api.MaxID, 0, 1), true}, {read(api.MaxID+1, 0, 1), false}, {api.Request{Task: -1, Group: 1, Pages: 1}, false}, {api.Request{Task: 0, Group: 1, Pages: 1}, true}, {api.Request{Task: api.MaxID, Group: 1, Pages: 1}, true}, {api.Request{Task: api.MaxID + 1, Group: 1, Pages: 1}, false},
		{read(1, -1, 1), false}, {read(1, most-1, 1), true}, {read(1, most, 1), false}, {read(1, most-1, 2), false}, {read(1, math.MaxInt, 1), false}, {read(1, 0, 0), false}, {read(1, 0, 4097), false}, {read(1, 0, 4096), true}, {read(1, 0, math.MinInt), false}, {api.Request{Group: 1, Pages: 1, Time: -1}, false}, {api.Request{Group: 1, Pages: 1, Time: api.MaxTime}, true}, {api.Request{Group: 1, Pages: 1, Time: api.MaxTime + 1}, false},
	} {
		if cost.Sound(x.r) != x.want {
			t.Error(i)
		}
	}
}

func TestP31_2(t *testing.T) {
	bad := api.Model{Seek: -1}
	for i, x := range []struct {
		m    api.Model
		r    api.Request
		head int
		want int
		e    api.Errno
	}{
		{model, read(2, 100, 4), 100, 14, api.OK}, {model, read(2, 100, 4), 99, 19, api.OK}, {model, write(2, 100, 4), 100, 28, api.OK}, {model, write(2, 100, 4), 0, 33, api.OK}, {model, read(2, 0, 4), 0, 14, api.OK}, {model, read(2, 0, 4), most, 19, api.OK}, {api.Model{}, read(2, 5, 4), 0, 0, api.OK}, {api.Model{WriteBase: 1000000, WritePage: 1000000, Seek: 1000000}, write(2, 5, 4096), 0, 4098000000, api.OK},
		{bad, read(2, 0, 0), -1, 0, api.ErrInvalid}, {bad, read(2, 0, 1), 0, 0, api.ErrInvalid}, {model, read(2, 0, 0), -1, 0, api.ErrInvalid}, {model, read(2, 0, 1), -1, 0, api.ErrRange}, {model, read(2, 0, 1), most + 1, 0, api.ErrRange},
	} {
		if n, e := cost.Cost(x.m, x.r, x.head); n != x.want || e != x.e {
			t.Error(i, n, e)
		}
	}
	for i, x := range []struct {
		m         api.Model
		l         requests
		head      int
		want, end int
		e         api.Errno
	}{
		{model, nil, 7, 0, 7, api.OK}, {model, requests{read(2, 100, 4), read(3, 104, 4)}, 100, 28, 108, api.OK}, {model, requests{read(2, 100, 4), write(3, 103, 1)}, 0, 19 + 27, 104, api.OK}, {model, many(256), 0, 11 + 255*16, 1, api.OK}, {model, requests{read(2, most-1, 1)}, most, 16, most, api.OK},
		{bad, nil, -1, 0, 0, api.ErrInvalid}, {model, requests{read(2, 0, 1), read(2, 0, 0)}, -1, 0, 0, api.ErrInvalid}, {model, append(many(256), read(2, 0, 0)), 0, 0, 0, api.ErrInvalid}, {model, many(257), -1, 0, 0, api.ErrRange}, {model, nil, most + 1, 0, 0, api.ErrRange}, {model, many(257), 0, 0, 0, api.ErrLimit},
	} {
		if n, end, e := cost.Total(x.m, x.l, x.head); n != x.want || end != x.end || e != x.e {
			t.Error(i, n, end, e)
		}
	}
}

func TestP31_3(t *testing.T) {
	early := api.Request{Task: 8, Group: 2, At: 100, Pages: 4, Time: 1}
	for i, x := range []struct {
		l, want requests
		e       api.Errno
	}{
		{nil, nil, api.OK}, {requests{read(2, 100, 4), read(2, 104, 4)}, requests{read(2, 100, 8)}, api.OK}, {requests{early, read(2, 104, 4)}, requests{{Task: 8, Group: 2, At: 100, Pages: 8, Time: 1}}, api.OK}, {requests{read(2, 100, 4), read(2, 104, 4), read(2, 108, 1), read(3, 109, 1)}, requests{read(2, 100, 9), read(3, 109, 1)}, api.OK}, {requests{read(2, 100, 4), write(2, 104, 4)}, requests{read(2, 100, 4), write(2, 104, 4)}, api.OK}, {requests{write(2, 100, 4), write(2, 104, 4)}, requests{write(2, 100, 8)}, api.OK}, {requests{read(2, 100, 4), read(2, 105, 4)}, requests{read(2, 100, 4), read(2, 105, 4)}, api.OK}, {requests{read(2, 104, 4), read(2, 100, 4)}, requests{read(2, 104, 4), read(2, 100, 4)}, api.OK}, {requests{read(2, 100, 4), read(3, 0, 1), read(2, 104, 4)}, requests{read(2, 100, 4), read(3, 0, 1), read(2, 104, 4)}, api.OK},
		{requests{read(2, 0, 3000), read(2, 3000, 1096)}, requests{read(2, 0, 4096)}, api.OK}, {requests{read(2, 0, 3000), read(2, 3000, 1097)}, requests{read(2, 0, 3000), read(2, 3000, 1097)}, api.OK}, {requests{read(2, 0, 3000), read(2, 3000, 1097), read(2, 4097, 9)}, requests{read(2, 0, 3000), read(2, 3000, 1106)}, api.OK},
		{append(many(256), read(2, 0, 0)), nil, api.ErrLimit}, {many(257), nil, api.ErrLimit}, {requests{read(2, 0, 1), read(2, 0, 0)}, nil, api.ErrInvalid}, {many(256), many(256), api.OK},
	} {
		before := fmt.Sprint(x.l)
		l, e := cost.Merge(x.l)
		if !eq(l, x.want) || e != x.e {
			t.Error(i, l, e)
		}
		for k := range l {
			l[k].Group = 99
		}
		if fmt.Sprint(x.l) != before {
			t.Error(i, "memory is shared")
		}
	}
}

func TestP31_4(t *testing.T) {
	at := func(pages ...int) requests {
		var l requests
		for _, p := range pages {
			l = append(l, read(2, p, 1))
		}
		return l
	}
	for i, x := range []struct {
		l    requests
		head int
		want []int
		e    api.Errno
	}{
		{nil, 0, nil, api.OK}, {at(50, 10, 70), 40, []int{0, 2, 1}, api.OK}, {at(50, 10, 70), 50, []int{0, 2, 1}, api.OK}, {at(50, 10, 70), 51, []int{2, 1, 0}, api.OK}, {at(50, 10, 70), 0, []int{1, 0, 2}, api.OK}, {at(50, 10, 70), most, []int{1, 0, 2}, api.OK}, {at(5, 9, 5, 9, 5), 7, []int{1, 3, 0, 2, 4}, api.OK}, {at(most-1, 0), 1, []int{0, 1}, api.OK}, {at(0, most-1), 1, []int{1, 0}, api.OK},
		{append(many(256), read(2, 0, 0)), -1, nil, api.ErrLimit}, {requests{read(2, 0, 0)}, -1, nil, api.ErrInvalid}, {at(1), -1, nil, api.ErrRange}, {at(1), most + 1, nil, api.ErrRange},
	} {
		if l, e := cost.Sweep(x.l, x.head); !eq(l, x.want) || e != x.e {
			t.Error(i, l, e)
		}
	}
	if l, e := cost.Sweep(many(256), 0); len(l) != 256 || e != api.OK || !slices.IsSorted(l) {
		t.Error(l, e)
	}
}

// TestConsequences checks the laws of chapter 31.
func TestConsequences(t *testing.T) {
	r := rand.New(rand.NewSource(33))
	pages := func(l requests) string {
		s := map[int]string{}
		for _, x := range l {
			for p := range x.Pages {
				s[x.Group] += fmt.Sprint(x.Write, x.At+p, " ")
			}
		}
		return fmt.Sprint(s)
	}
	for i := 0; i < 2000; i++ {
		m := api.Model{ReadBase: r.Intn(20), ReadPage: r.Intn(5), WriteBase: r.Intn(20), WritePage: r.Intn(5), Seek: r.Intn(30)}
		var l requests
		at := 0
		for range r.Intn(9) {
			if r.Intn(3) == 0 {
				at = r.Intn(30)
			}
			x := read(1+r.Intn(2), at, 1+r.Intn(3))
			x.Write = r.Intn(3) == 0
			at += x.Pages
			l = append(l, x)
		}
		head := r.Intn(40)
		merged, _ := cost.Merge(l)
		again, _ := cost.Merge(merged)
		a, x, _ := cost.Total(m, l, head)
		b, y, _ := cost.Total(m, merged, head)
		if !eq(merged, again) || b > a || x != y || pages(l) != pages(merged) {
			t.Fatal(l, merged)
		}
		order, _ := cost.Sweep(l, head)
		falls := 0
		for k := 1; k < len(order); k++ {
			if l[order[k]].At < l[order[k-1]].At {
				falls++
			}
		}
		if falls > 1 || len(order) != len(l) {
			t.Fatal(l, order)
		}
		one, whole := r.Intn(5)+1, read(1, r.Intn(9), 6)
		first, second := whole, whole
		first.Pages, second.At, second.Pages = one, whole.At+one, 6-one
		if second.Pages > 0 {
			c, _ := cost.Cost(m, whole, head)
			if d, _, _ := cost.Total(m, requests{first, second}, head); c > d {
				t.Fatal(m, whole, one)
			}
		}
	}
}
