package name_test

import (
	"fmt"
	"math/rand"
	"slices"
	"strings"
	"testing"

	"groupcontrol/api"
	"groupcontrol/name"
)

func eq(a, b any) bool { return fmt.Sprint(a) == fmt.Sprint(b) }

// TestP1_1 looks at every byte at the beginning and behind it, and at all lengths.
func TestP1_1(t *testing.T) {
	inside := "abcdefghijklmnopqrstuvwxyzABCDEFGHIJKLMNOPQRSTUVWXYZ0123456789_-"
	for b := 0; b < 256; b++ {
		s := string([]byte{byte(b)})
		known := strings.Contains(inside, s)
		if name.Valid(s) != (known && s != "-") {
			t.Errorf("alone: byte %d", b)
		}
		if name.Valid("a"+s) != known || name.Valid("a"+s+"b") != known {
			t.Errorf("inside: byte %d", b)
		}
	}
	for n := 0; n < 70; n++ {
		if name.Valid(strings.Repeat("x", n)) != (n >= 1 && n <= 32) {
			t.Errorf("length %d", n)
		}
	}
	for _, s := range []string{"é", "aé", "日本", "\xff", "a\xff", ".", ".."} {
		if name.Valid(s) {
			t.Errorf("%q", s)
		}
	}
}

func TestP1_2Split(t *testing.T) {
	long := strings.Repeat("n", api.MaxName)
	eight := strings.Repeat("/a", 8)
	for _, x := range []struct {
		path string
		want []string
		e    api.Errno
	}{
		{"/", nil, api.OK},
		{"/a", []string{"a"}, api.OK},
		{"/a/b", []string{"a", "b"}, api.OK},
		{"/" + long + "/_-", []string{long, "_-"}, api.OK},
		{eight, []string{"a", "a", "a", "a", "a", "a", "a", "a"}, api.OK},
		{"", nil, api.ErrText},
		{"a", nil, api.ErrText},
		{"a/b", nil, api.ErrText},
		{"//", nil, api.ErrText},
		{"/a/", nil, api.ErrText},
		{"//a", nil, api.ErrText},
		{"/a//b", nil, api.ErrText},
		{"/a b", nil, api.ErrText},
		{"/-a", nil, api.ErrText},
		{"/a/-b", nil, api.ErrText},
		{"/" + long + "n", nil, api.ErrText},
		{" /a", nil, api.ErrText},
		{eight + "/a", nil, api.ErrLimit},
		{eight + eight, nil, api.ErrLimit},
		{eight + "/a/", nil, api.ErrText},
		{eight + "/-", nil, api.ErrText},
	} {
		l, e := name.Split(x.path)
		if e != x.e || !eq(l, x.want) {
			t.Errorf("Split(%q) = %v, %v", x.path, l, e)
		}
	}
}

func TestP1_2Join(t *testing.T) {
	for _, x := range []struct {
		parts []string
		want  string
		e     api.Errno
	}{
		{nil, "/", api.OK},
		{[]string{"a"}, "/a", api.OK},
		{[]string{"b", "a", "-c"}, "", api.ErrText},
		{[]string{"b", "a", "c-"}, "/b/a/c-", api.OK},
		{[]string{""}, "", api.ErrText},
		{[]string{"a/b"}, "", api.ErrText},
		{[]string{"/"}, "", api.ErrText},
		{strings.Split("a b c d e f g h", " "), "/a/b/c/d/e/f/g/h", api.OK},
		{strings.Split("a b c d e f g h i", " "), "", api.ErrLimit},
		{strings.Split("a b c d e f g h i .", " "), "", api.ErrText},
	} {
		s, e := name.Join(x.parts)
		if s != x.want || e != x.e {
			t.Errorf("Join(%v) = %q, %v", x.parts, s, e)
		}
	}
	l := []string{"x", "y"}
	if name.Join(l); !eq(l, []string{"x", "y"}) {
		t.Error("the argument was changed")
	}
}

func TestP1_3Under(t *testing.T) {
	nine := strings.Repeat("/a", 9)
	for _, x := range []struct {
		a, b string
		want bool
	}{
		{"/", "/", true}, {"/", "/a", true}, {"/", "/a/b/c", true},
		{"/a", "/", false}, {"/a", "/a", true}, {"/a", "/a/b", true}, {"/a/b", "/a", false},
		{"/a", "/ab", false}, {"/a", "/a-b", false}, {"/ab", "/a/b", false}, {"/a/b", "/a/c", false}, {"/a/c", "/b/c", false},
		{"", "", false}, {"a", "a", false}, {"a", "a/b", false}, {"/", "", false}, {"/", "a", false}, {"", "/", false},
		{"/", "/a/", false}, {"/a/", "/a/b", false}, {"/a", nine, false}, {nine, nine, false}, {"/", "//", false},
	} {
		if name.Under(x.a, x.b) != x.want {
			t.Errorf("Under(%q, %q) is not %v", x.a, x.b, x.want)
		}
	}
}

func TestP1_3Common(t *testing.T) {
	nine := strings.Repeat("/a", 9)
	for _, x := range []struct {
		a, b, want string
		e          api.Errno
	}{
		{"/", "/", "/", api.OK}, {"/", "/a", "/", api.OK}, {"/a", "/", "/", api.OK},
		{"/a/b", "/a/c", "/a", api.OK}, {"/a/b", "/a/b", "/a/b", api.OK}, {"/a/b/c", "/a/b", "/a/b", api.OK},
		{"/a/b", "/a/b/c/d", "/a/b", api.OK}, {"/ab", "/ac", "/", api.OK}, {"/a/x/c", "/a/y/c", "/a", api.OK},
		{"x", nine, "", api.ErrText}, {nine, "x", "", api.ErrLimit}, {"/a", nine, "", api.ErrLimit}, {"/a", "/a/", "", api.ErrText},
	} {
		s, e := name.Common(x.a, x.b)
		if s != x.want || e != x.e {
			t.Errorf("Common(%q, %q) = %q, %v", x.a, x.b, s, e)
		}
	}
}

func TestP1_3Compare(t *testing.T) {
	nine := strings.Repeat("/a", 9)
	l := []string{"/", "/-", "/A", "/B/a", "/a", "/a/A", "/a/b", "/a/b/c", "/a/bc", "/a-", "/a-b", "/a0", "/ab", "/b", "/b/a"}
	l = slices.DeleteFunc(l, func(s string) bool { return s == "/-" })
	l = append(l, "", "-", "/-", "//", "/a/", nine, "A", "a", "a/b", "é")
	for i, a := range l {
		for k, b := range l {
			want := 0
			if i < k {
				want = -1
			}
			if i > k {
				want = 1
			}
			if got := name.Compare(a, b); got != want {
				t.Errorf("Compare(%q, %q) = %d, want %d", a, b, got, want)
			}
		}
	}
}

// TestConsequences checks the laws of chapter 1 for random paths.
func TestConsequences(t *testing.T) {
	r := rand.New(rand.NewSource(1))
	words := []string{"a", "b", "ab", "a-b", "a_", "B", "0"}
	path := func() string {
		s := ""
		for n := r.Intn(5); n > 0; n-- {
			s += "/" + words[r.Intn(len(words))]
		}
		if s == "" {
			return "/"
		}
		return s
	}
	for i := 0; i < 3000; i++ {
		a, b, c := path(), path(), path()
		l, e := name.Split(a)
		if back, f := name.Join(l); e != api.OK || f != api.OK || back != a {
			t.Fatalf("%q: %v %q", a, l, back)
		}
		s, e := name.Common(a, b)
		if e != api.OK || !name.Under(s, a) || !name.Under(s, b) || name.Under(c, a) && name.Under(c, b) && !name.Under(c, s) {
			t.Fatalf("Common(%q, %q) = %q", a, b, s)
		}
		if name.Under(a, b) && name.Compare(a, b) > 0 {
			t.Fatalf("%q comes behind %q", a, b)
		}
		if name.Under(a, b) && !name.Under(a, c) && name.Compare(c, a) > 0 && name.Compare(b, c) > 0 {
			t.Fatalf("%q comes between %q and %q", c, a, b)
		}
	}
}
