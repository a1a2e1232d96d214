package bucket_test

import (
	"math"
	"math/rand"
	"testing"

	"groupcontrol/api"
	"groupcontrol/bucket"
)

const (
	most = api.MaxRate
	late = api.MaxTime
)

// of returns a bucket with a rate, per, burst, level and time.
func of(rate, per, burst, level, now int) api.Bucket {
	return api.Bucket{Rate: rate, Per: per, Burst: burst, Level: level, Now: now}
}

// open returns a bucket without a limit.
func open(now int) api.Bucket { return of(api.Max, 2, 0, 0, now) }

var none, bad = api.Bucket{}, of(3, 2, 10, 21, 5)

func TestP30_1(t *testing.T) {
	for i, x := range []struct {
		b    api.Bucket
		want bool
	}{
		{of(3, 2, 10, 20, 5), true}, {bad, false}, {none, false}, {of(0, 1, 0, 0, 0), true}, {of(-1, 1, 0, 0, 0), false}, {of(most, late, most, most*late, late), true}, {of(most+1, 1, 0, 0, 0), false}, {of(api.Max+1, 1, 0, 0, 0), false}, {of(1, 0, 0, 0, 0), false}, {of(1, late+1, 0, 0, 0), false}, {of(1, -1, 0, 0, 0), false}, {of(1, 1, -1, 0, 0), false}, {of(1, 1, most+1, 0, 0), false}, {of(1, 1, 5, -1, 0), false}, {of(1, 1, 5, 6, 0), false}, {of(1, 1, 5, 5, -1), false}, {of(1, 1, 5, 5, late+1), false},
		{open(5), true}, {of(api.Max, 1, 1, 0, 0), false}, {of(api.Max, 1, 0, 1, 0), false}, {of(api.Max, 0, 0, 0, 0), false}, {of(api.Max, 1, 0, 0, late+1), false}, {of(api.Max, 1, -1, 0, 0), false}, {of(1, math.MaxInt, math.MaxInt, 0, 0), false},
	} {
		if bucket.Valid(x.b) != x.want {
			t.Error(i)
		}
	}
	for i, x := range []struct {
		rate, per, burst, now int
		want                  api.Bucket
		e                     api.Errno
	}{
		{3, 2, 10, 7, of(3, 2, 10, 20, 7), api.OK}, {0, 1, 0, 0, of(0, 1, 0, 0, 0), api.OK}, {most, late, most, late, of(most, late, most, most*late, late), api.OK}, {api.Max, 2, 77, 5, open(5), api.OK}, {api.Max, 2, -1, 5, open(5), api.OK}, {api.Max, 2, math.MaxInt, 5, open(5), api.OK}, {api.Max, 0, 0, 5, none, api.ErrRange}, {api.Max, 1, 0, -1, none, api.ErrRange}, {-1, 1, 1, 1, none, api.ErrRange}, {most + 1, 1, 1, 1, none, api.ErrRange}, {1, 0, 1, 1, none, api.ErrRange}, {1, late + 1, 1, 1, none, api.ErrRange}, {1, 1, -1, 1, none, api.ErrRange}, {1, 1, most + 1, 1, none, api.ErrRange}, {1, 1, 1, late + 1, none, api.ErrRange}, {1, 1, 1, -1, none, api.ErrRange},
	} {
		if b, e := bucket.New(x.rate, x.per, x.burst, x.now); b != x.want || e != x.e {
			t.Error(i, b, e)
		}
	}
}

func TestP30_2(t *testing.T) {
	b := of(3, 2, 10, 4, 5)
	for i, x := range []struct {
		b    api.Bucket
		now  int
		want api.Bucket
		e    api.Errno
	}{
		{b, 5, b, api.OK}, {b, 6, of(3, 2, 10, 7, 6), api.OK}, {b, 10, of(3, 2, 10, 19, 10), api.OK}, {b, 11, of(3, 2, 10, 20, 11), api.OK}, {b, late, of(3, 2, 10, 20, late), api.OK}, {of(0, 1, 9, 4, 5), 99, of(0, 1, 9, 4, 99), api.OK}, {open(5), 9, open(9), api.OK}, {of(most, late, most, 0, 0), late, of(most, late, most, most*late, late), api.OK},
		{bad, -1, none, api.ErrInvalid}, {b, -1, none, api.ErrRange}, {b, late + 1, none, api.ErrRange}, {b, 4, none, api.ErrOrder}, {b, 0, none, api.ErrOrder}, {open(5), 4, none, api.ErrOrder},
	} {
		if b, e := bucket.Advance(x.b, x.now); b != x.want || e != x.e {
			t.Error(i, b, e)
		}
	}
	for i, x := range []struct {
		b    api.Bucket
		want int
	}{{of(3, 2, 10, 4, 5), 2}, {of(3, 2, 10, 5, 5), 2}, {of(3, 2, 10, 1, 5), 0}, {open(0), most}, {bad, 0}, {of(api.Max, 1, 1, 0, 0), 0}, {of(0, 1, most, most, 0), most}} {
		if n := bucket.Tokens(x.b); n != x.want {
			t.Error(i, n)
		}
	}
}

func TestP30_3(t *testing.T) {
	b := of(3, 2, 10, 4, 5)
	for i, x := range []struct {
		b      api.Bucket
		now, n int
		want   api.Bucket
		e      api.Errno
	}{
		{b, 5, 2, of(3, 2, 10, 0, 5), api.OK}, {b, 5, 0, b, api.OK}, {b, 6, 3, of(3, 2, 10, 1, 6), api.OK}, {b, 6, 4, of(3, 2, 10, 7, 6), api.ErrAgain}, {b, 5, 3, b, api.ErrAgain}, {b, 99, 10, of(3, 2, 10, 0, 99), api.OK}, {b, 99, 11, of(3, 2, 10, 20, 99), api.ErrAgain}, {open(5), 9, most, open(9), api.OK}, {open(5), 9, 0, open(9), api.OK},
		{bad, -1, -1, none, api.ErrInvalid}, {b, -1, -1, none, api.ErrRange}, {b, late + 1, 1, none, api.ErrRange}, {b, 4, -1, none, api.ErrOrder}, {b, 6, -1, none, api.ErrRange}, {b, 6, most + 1, none, api.ErrRange}, {open(5), 6, most + 1, none, api.ErrRange},
	} {
		if b, e := bucket.Take(x.b, x.now, x.n); b != x.want || e != x.e {
			t.Error(i, b, e)
		}
	}
}

func TestP30_4(t *testing.T) {
	b := of(3, 2, 10, 4, 5)
	for i, x := range []struct {
		b    api.Bucket
		n    int
		want int
		e    api.Errno
	}{
		{b, 0, 5, api.OK}, {b, 2, 5, api.OK}, {b, 3, 6, api.OK}, {b, 4, 7, api.OK}, {b, 5, 7, api.OK}, {b, 10, 11, api.OK}, {b, 11, 0, api.ErrNone}, {of(0, 2, 10, 4, 5), 2, 5, api.OK}, {of(0, 2, 10, 4, 5), 3, 0, api.ErrNone}, {open(5), most, 5, api.OK}, {of(1, 1, 9, 0, late-5), 5, late, api.OK}, {of(1, 1, 9, 0, late-5), 6, 0, api.ErrNone}, {of(1, late, most, 0, 0), most, 0, api.ErrNone}, {of(most, late, most, 0, 0), most, late, api.OK},
		{bad, -1, 0, api.ErrInvalid}, {b, -1, 0, api.ErrRange}, {b, most + 1, 0, api.ErrRange},
	} {
		if n, e := bucket.When(x.b, x.n); n != x.want || e != x.e {
			t.Error(i, n, e)
		}
	}
}

func TestP30_5(t *testing.T) {
	b := of(3, 2, 10, 5, 5)
	for i, x := range []struct {
		b                     api.Bucket
		rate, per, burst, now int
		want                  api.Bucket
		e                     api.Errno
	}{
		{b, 7, 3, 10, 5, of(7, 3, 10, 6, 5), api.OK}, {b, 7, 3, 10, 6, of(7, 3, 10, 12, 6), api.OK}, {b, 7, 3, 1, 6, of(7, 3, 1, 3, 6), api.OK}, {b, 7, 3, 99, 99, of(7, 3, 99, 30, 99), api.OK}, {b, 3, 2, 10, 5, of(3, 2, 10, 4, 5), api.OK}, {b, api.Max, 4, 9, 6, of(api.Max, 4, 0, 0, 6), api.OK}, {open(5), 7, 3, 10, 9, of(7, 3, 10, 0, 9), api.OK}, {open(5), api.Max, 4, -9, 9, of(api.Max, 4, 0, 0, 9), api.OK},
		{bad, -1, 3, 10, -1, none, api.ErrInvalid}, {b, -1, 3, 10, -1, none, api.ErrRange}, {b, -1, 3, 10, 4, none, api.ErrOrder}, {b, -1, 3, 10, 6, none, api.ErrRange}, {b, 7, 0, 10, 6, none, api.ErrRange}, {b, 7, 3, most + 1, 6, none, api.ErrRange}, {open(5), api.Max, 0, 0, 6, none, api.ErrRange},
	} {
		if b, e := bucket.Change(x.b, x.rate, x.per, x.burst, x.now); b != x.want || e != x.e {
			t.Error(i, b, e)
		}
	}
}

// TestConsequences checks the laws of chapter 30.
func TestConsequences(t *testing.T) {
	r := rand.New(rand.NewSource(32))
	for i := 0; i < 3000; i++ {
		b, _ := bucket.New(r.Intn(20), 1+r.Intn(10), r.Intn(30), r.Intn(9))
		b.Level = r.Intn(b.Burst*b.Per + 1)
		mid, end := b.Now+r.Intn(9), b.Now+9+r.Intn(9)
		one, _ := bucket.Advance(b, end)
		half, _ := bucket.Advance(b, mid)
		if two, _ := bucket.Advance(half, end); one != two {
			t.Fatal(b, one, two)
		}
		n, k := r.Intn(9), r.Intn(9)
		first, e := bucket.Take(b, mid, n)
		second, f := bucket.Take(first, mid, k)
		both, g := bucket.Take(b, mid, n+k)
		if (e == api.OK && f == api.OK) != (g == api.OK) || g == api.OK && second != both {
			t.Fatal(b, n, k)
		}
		when, e := bucket.When(b, n)
		for now := b.Now; now < b.Now+100; now++ {
			_, f := bucket.Take(b, now, n)
			if (f == api.OK) != (e == api.OK && now >= when) && (e == api.OK || f == api.OK) {
				t.Fatal(b, n, when, now)
			}
		}
		taken, from := 0, b
		for range 30 {
			next, e := bucket.Take(b, b.Now+r.Intn(3), r.Intn(5))
			if e == api.OK {
				grown, _ := bucket.Advance(b, next.Now)
				taken += grown.Level - next.Level
			}
			b = next
			if taken > from.Level+from.Rate*(b.Now-from.Now) {
				t.Fatal(from, b, taken)
			}
		}
	}
}
