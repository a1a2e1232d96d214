package keyed_test

import (
	"fmt"
	"math/rand"
	"strconv"
	"strings"
	"testing"

	"groupcontrol/api"
	"groupcontrol/keyed"
)

func eq(a, b any) bool { return fmt.Sprintf("%q", a) == fmt.Sprintf("%q", b) }

type fields = []api.Field
type rows = []api.Row

// many returns a text of n lines with different keys, each of them with the given end.
func many(n int, end string) string {
	s := ""
	for i := range n {
		s += "k" + strconv.Itoa(i) + end
	}
	return s
}

func TestP4_1Word(t *testing.T) {
	for b := 0; b < 256; b++ {
		s := string([]byte{byte(b)})
		want := b >= 33 && b <= 126 && b != '='
		if keyed.Word(s) != want || keyed.Word("a"+s) != want || keyed.Word(s+"a") != want {
			t.Errorf("byte %d", b)
		}
	}
	if keyed.Word("") || !keyed.Word(strings.Repeat("~", 10000)) {
		t.Error("lengths")
	}
}

func TestP4_2ParseFlat(t *testing.T) {
	big := "a " + strings.Repeat("x", api.MaxText-2)
	for i, x := range []struct {
		text string
		want fields
		e    api.Errno
	}{
		{"", nil, api.OK},
		{"a 1\n", fields{{Key: "a", Value: "1"}}, api.OK},
		{"a 1", fields{{Key: "a", Value: "1"}}, api.OK},
		{"b 2\na 1\n", fields{{Key: "b", Value: "2"}, {Key: "a", Value: "1"}}, api.OK},
		{"b 2\na 2", fields{{Key: "b", Value: "2"}, {Key: "a", Value: "2"}}, api.OK},
		{big, fields{{Key: "a", Value: big[2:]}}, api.OK},
		{big + "\n", nil, api.ErrLimit}, {big + "=", nil, api.ErrLimit}, {strings.Repeat("\n", 5000), nil, api.ErrLimit},
		{"\n", nil, api.ErrText}, {"a 1\n\n", nil, api.ErrText}, {"\na 1\n", nil, api.ErrText}, {"a\n", nil, api.ErrText}, {"a", nil, api.ErrText}, {"a ", nil, api.ErrText}, {" a", nil, api.ErrText}, {" ", nil, api.ErrText},
		{"a  1", nil, api.ErrText}, {"a 1 ", nil, api.ErrText}, {"a 1 2", nil, api.ErrText}, {"a=1", nil, api.ErrText}, {"a 1=2", nil, api.ErrText}, {"a\t1", nil, api.ErrText}, {"a 1\r\n", nil, api.ErrText}, {"é 1", nil, api.ErrText},
		{"a 1\na 2\n", nil, api.ErrExists}, {"a 1\nb 1\na 1", nil, api.ErrExists}, {"a 1\na 2\nx\n", nil, api.ErrExists}, {"a 1\nx\na 1\n", nil, api.ErrText}, {"a 1\na\n", nil, api.ErrText},
		{many(65, " v\n"), nil, api.ErrLimit}, {many(64, " v\n") + "k1 v\n", nil, api.ErrExists}, {many(64, " v\n") + "x\n", nil, api.ErrText}, {many(65, " v\n") + "x\n", nil, api.ErrLimit}, {many(64, " v\n") + "\n", nil, api.ErrText},
	} {
		l, e := keyed.ParseFlat(x.text)
		if e != x.e || !eq(l, x.want) {
			t.Errorf("%d: %.60q: %v %v", i, x.text, l, e)
		}
	}
	if l, e := keyed.ParseFlat(many(64, " v\n")); e != api.OK || len(l) != 64 || l[63].Key != "k63" {
		t.Error(l, e)
	}
}

func TestP4_2ParseNested(t *testing.T) {
	wide := func(n int) string { return "r" + strings.ReplaceAll(many(n, "=v;"), "k", " k") }
	wide64, wide65 := strings.ReplaceAll(wide(64), ";", ""), strings.ReplaceAll(wide(65), ";", "")
	big := "a b=" + strings.Repeat("x", api.MaxText-4)
	for i, x := range []struct {
		text string
		want rows
		e    api.Errno
	}{
		{"", nil, api.OK},
		{"8:0 rbps=max wiops=5", rows{{Key: "8:0", Fields: fields{{Key: "rbps", Value: "max"}, {Key: "wiops", Value: "5"}}}}, api.OK},
		{"a\n", rows{{Key: "a"}}, api.OK}, {"a", rows{{Key: "a"}}, api.OK},
		{"b x=1\na x=1\n", rows{{Key: "b", Fields: fields{{Key: "x", Value: "1"}}}, {Key: "a", Fields: fields{{Key: "x", Value: "1"}}}}, api.OK},
		{"a a=a", rows{{Key: "a", Fields: fields{{Key: "a", Value: "a"}}}}, api.OK},
		{big, rows{{Key: "a", Fields: fields{{Key: "b", Value: big[4:]}}}}, api.OK}, {big + "\n", nil, api.ErrLimit}, {strings.Repeat("\n", 5000), nil, api.ErrLimit},
		{"\n", nil, api.ErrText}, {"a\n\n", nil, api.ErrText}, {" ", nil, api.ErrText}, {"a ", nil, api.ErrText}, {" a=1", nil, api.ErrText}, {"a  b=1", nil, api.ErrText}, {"a b=1 ", nil, api.ErrText}, {"a b", nil, api.ErrText}, {"a =1", nil, api.ErrText}, {"a b=", nil, api.ErrText}, {"a =", nil, api.ErrText}, {"a b=1=2", nil, api.ErrText}, {"a b==1", nil, api.ErrText},
		{"a=1", nil, api.ErrText}, {"a=1 b=2", nil, api.ErrText}, {"a b=\t", nil, api.ErrText}, {"a é=1", nil, api.ErrText}, {"a b=é", nil, api.ErrText},
		{"a\na\n", nil, api.ErrExists}, {"a x=1\na y=1\n", nil, api.ErrExists}, {"a x=1 x=1", nil, api.ErrExists}, {"a x=1 y=1 x=2", nil, api.ErrExists}, {"a x=1 x=1 y", nil, api.ErrText}, {"a x=1\na y", nil, api.ErrText}, {"a x=1 x=1\nb y", nil, api.ErrExists}, {"a\nb y\na\n", nil, api.ErrText},
		{wide65, nil, api.ErrLimit}, {wide64 + " k3=v", nil, api.ErrExists}, {wide65 + " k3=v", nil, api.ErrExists}, {wide65 + " k", nil, api.ErrText}, {"r\n" + wide65, nil, api.ErrExists}, {wide65 + "\nr k", nil, api.ErrLimit},
		{many(65, "\n"), nil, api.ErrLimit}, {many(64, "\n") + "k1\n", nil, api.ErrExists}, {many(64, "\n") + "z x=1 x=1\n", nil, api.ErrExists}, {many(64, "\n") + "z x\n", nil, api.ErrText}, {many(65, "\n") + "z x\n", nil, api.ErrLimit},
	} {
		l, e := keyed.ParseNested(x.text)
		if e != x.e || !eq(l, x.want) {
			t.Errorf("%d: %.60q: %v %v", i, x.text, l, e)
		}
	}
	if l, e := keyed.ParseNested(wide64); e != api.OK || len(l) != 1 || len(l[0].Fields) != 64 {
		t.Error(l, e)
	}
	if l, e := keyed.ParseNested(many(64, "\n")); e != api.OK || len(l) != 64 {
		t.Error(l, e)
	}
}

func TestP4_3FormatFlat(t *testing.T) {
	var full fields
	for i := range 64 {
		full = append(full, api.Field{Key: "k" + strconv.Itoa(i), Value: "v"})
	}
	big := fields{{Key: "a", Value: strings.Repeat("x", api.MaxText-3)}}
	bigger := fields{{Key: "a", Value: strings.Repeat("x", api.MaxText-2)}}
	for i, x := range []struct {
		l    fields
		want string
		e    api.Errno
	}{
		{nil, "", api.OK}, {fields{{Key: "b", Value: "2"}, {Key: "a", Value: "2"}}, "b 2\na 2\n", api.OK}, {full, many(64, " v\n"), api.OK}, {big, "a " + big[0].Value + "\n", api.OK}, {bigger, "", api.ErrLimit},
		{append(full[:64:64], api.Field{Key: "a b", Value: "c"}), "", api.ErrLimit},
		{fields{{Key: "", Value: "2"}}, "", api.ErrText}, {fields{{Key: "a", Value: ""}}, "", api.ErrText}, {fields{{Key: "a=", Value: "2"}}, "", api.ErrText}, {fields{{Key: "a", Value: "b\n"}}, "", api.ErrText},
		{fields{{Key: "a", Value: "1"}, {Key: "a", Value: "2"}}, "", api.ErrExists}, {fields{{Key: "a", Value: "1"}, {Key: "a", Value: "2"}, {Key: "", Value: ""}}, "", api.ErrExists}, {fields{{Key: "a", Value: "1"}, {Key: "", Value: ""}, {Key: "a", Value: "1"}}, "", api.ErrText}, {fields{{Key: "a", Value: "1"}, {Key: "a", Value: ""}}, "", api.ErrText},
		{append(bigger[:1:1], bigger[0]), "", api.ErrExists},
	} {
		s, e := keyed.FormatFlat(x.l)
		if s != x.want || e != x.e {
			t.Errorf("%d: %.60q %v", i, s, e)
		}
	}
}

func TestP4_3FormatNested(t *testing.T) {
	var full rows
	var wide fields
	for i := range 65 {
		full = append(full, api.Row{Key: "k" + strconv.Itoa(i)})
		wide = append(wide, api.Field{Key: "k" + strconv.Itoa(i), Value: "v"})
	}
	big := rows{{Key: "a", Fields: fields{{Key: "b", Value: strings.Repeat("x", api.MaxText-5)}}}}
	bigger := rows{{Key: "a", Fields: fields{{Key: "b", Value: strings.Repeat("x", api.MaxText-4)}}}}
	for i, x := range []struct {
		l    rows
		want string
		e    api.Errno
	}{
		{nil, "", api.OK}, {rows{{Key: "8:0", Fields: fields{{Key: "r", Value: "max"}, {Key: "w", Value: "5"}}}, {Key: "x"}}, "8:0 r=max w=5\nx\n", api.OK}, {full[:64], many(64, "\n"), api.OK}, {big, "a b=" + big[0].Fields[0].Value + "\n", api.OK}, {bigger, "", api.ErrLimit},
		{full, "", api.ErrLimit}, {append(full[:64:64], api.Row{}), "", api.ErrLimit},
		{rows{{}}, "", api.ErrText}, {rows{{Key: "a b"}}, "", api.ErrText}, {rows{{Key: "a", Fields: fields{{Key: "b"}}}}, "", api.ErrText}, {rows{{Key: "a", Fields: fields{{Value: "b"}}}}, "", api.ErrText},
		{rows{{Key: "a"}, {Key: "a"}}, "", api.ErrExists}, {rows{{Key: "a", Fields: fields{{Key: "b", Value: "1"}, {Key: "b", Value: "2"}}}}, "", api.ErrExists}, {rows{{Key: "a", Fields: fields{{Key: "b", Value: "1"}, {Key: "b", Value: ""}}}}, "", api.ErrText}, {rows{{Key: "a"}, {Key: "a"}, {}}, "", api.ErrExists}, {rows{{Key: "a"}, {}, {Key: "a"}}, "", api.ErrText},
		{rows{{Key: "a", Fields: wide}}, "", api.ErrLimit}, {rows{{Key: "a", Fields: wide}, {}}, "", api.ErrLimit}, {rows{{Key: "a", Fields: append(wide[:65:65], wide[3])}}, "", api.ErrExists}, {rows{{Key: "a"}, {Key: "a", Fields: wide}}, "", api.ErrExists}, {append(bigger[:1:1], bigger[0]), "", api.ErrExists},
	} {
		s, e := keyed.FormatNested(x.l)
		if s != x.want || e != x.e {
			t.Errorf("%d: %.60q %v", i, s, e)
		}
	}
	if _, e := keyed.FormatNested(rows{{Key: "a", Fields: wide[:64]}}); e != api.OK {
		t.Error(e)
	}
}

func TestP4_4(t *testing.T) {
	l := fields{{Key: "a", Value: "1"}, {Key: "b", Value: "2"}, {Key: "a", Value: "3"}, {Key: "", Value: "4"}}
	before := fmt.Sprintf("%q", l)
	for _, x := range []struct {
		key, want string
		ok        bool
	}{{"a", "1", true}, {"b", "2", true}, {"", "4", true}, {"c", "", false}} {
		if s, ok := keyed.Get(l, x.key); s != x.want || ok != x.ok {
			t.Error(x, s, ok)
		}
	}
	for i, x := range []struct {
		key, value string
		want       fields
		e          api.Errno
	}{
		{"a", "9", fields{{Key: "a", Value: "9"}, l[1], l[2], l[3]}, api.OK}, {"b", "9", fields{l[0], {Key: "b", Value: "9"}, l[2], l[3]}, api.OK}, {"c", "9", fields{l[0], l[1], l[2], l[3], {Key: "c", Value: "9"}}, api.OK},
		{"", "9", nil, api.ErrText}, {"a", "", nil, api.ErrText}, {"a=", "9", nil, api.ErrText}, {"a", "9 ", nil, api.ErrText},
	} {
		if m, e := keyed.Set(l, x.key, x.value); !eq(m, x.want) || e != x.e {
			t.Error(i, m, e)
		}
	}
	if m, e := keyed.Set(nil, "x", "y"); !eq(m, fields{{Key: "x", Value: "y"}}) || e != api.OK {
		t.Error(m, e)
	}
	if m := keyed.Drop(l, "a"); !eq(m, fields{l[1], l[3]}) {
		t.Error(m)
	}
	if m := keyed.Drop(l, "z"); !eq(m, l) {
		t.Error(m)
	} else {
		m[0].Key = "changed"
	}
	spare := make(fields, 1, 8)
	spare[0] = l[0]
	if m, _ := keyed.Set(spare, "n", "1"); len(m) != 2 || spare[:2][1].Key != "" {
		t.Error("Set wrote behind the end of its argument")
	}
	if fmt.Sprintf("%q", l) != before {
		t.Error("an argument was changed")
	}
	r := rows{{Key: "x", Fields: l[:1]}, {Key: "y", Fields: l[1:]}, {Key: "x", Fields: l}}
	for _, x := range []struct {
		key  string
		want fields
		ok   bool
	}{{"x", l[:1], true}, {"y", l[1:], true}, {"z", nil, false}, {"", nil, false}} {
		m, ok := keyed.Row(r, x.key)
		if !eq(m, x.want) || ok != x.ok {
			t.Error(x, m, ok)
		}
		for i := range m {
			m[i].Key = "changed"
		}
	}
	if fmt.Sprintf("%q", l) != before {
		t.Error("Row shares memory with its argument")
	}
}

// TestConsequences: Parse and Format are inverse to each other on tables.
func TestConsequences(t *testing.T) {
	r := rand.New(rand.NewSource(4))
	word := func() string { return string([]byte("ab!~:-9"[r.Intn(7):])[:1]) + strconv.Itoa(r.Intn(30)) }
	for i := 0; i < 2000; i++ {
		var l fields
		var n rows
		for k := r.Intn(6); k > 0; k-- {
			l, _ = keyed.Set(l, word(), word())
		}
		for k := range r.Intn(5) {
			row := api.Row{Key: strconv.Itoa(k)}
			for j := r.Intn(4); j > 0; j-- {
				row.Fields, _ = keyed.Set(row.Fields, word(), word())
			}
			n = append(n, row)
		}
		s, e := keyed.FormatFlat(l)
		if m, f := keyed.ParseFlat(s); e != api.OK || f != api.OK || !eq(l, m) {
			t.Fatal(l, s, m)
		}
		s, e = keyed.FormatNested(n)
		if m, f := keyed.ParseNested(s); e != api.OK || f != api.OK || !eq(n, m) {
			t.Fatal(n, s, m)
		}
	}
}
