package copies_test

import (
	"reflect"
	"testing"

	"groupcontrol/copies"
)

// fill puts different numbers into a value, and two elements into each of its slices.
func fill(v reflect.Value, next *int) {
	switch v.Kind() {
	case reflect.Int:
		*next++
		v.SetInt(int64(*next))
	case reflect.String:
		v.SetString("text")
	case reflect.Bool:
		v.SetBool(true)
	case reflect.Struct:
		for i := range v.NumField() {
			fill(v.Field(i), next)
		}
	case reflect.Array:
		for i := range v.Len() {
			fill(v.Index(i), next)
		}
	case reflect.Slice:
		v.Set(reflect.MakeSlice(v.Type(), 2, 2))
		for i := range 2 {
			fill(v.Index(i), next)
		}
	}
}

// slicesOf notes where the slices of a value are.
func slicesOf(v reflect.Value, found map[uintptr]bool) {
	switch v.Kind() {
	case reflect.Struct:
		for i := range v.NumField() {
			slicesOf(v.Field(i), found)
		}
	case reflect.Slice:
		found[v.Pointer()] = true
		for i := range v.Len() {
			slicesOf(v.Index(i), found)
		}
	}
}

func check[T any](t *testing.T, copied func(T) T) {
	t.Helper()
	var x, empty T
	next := 0
	fill(reflect.ValueOf(&x).Elem(), &next)
	y := copied(x)
	if !reflect.DeepEqual(x, y) || !reflect.DeepEqual(empty, copied(empty)) {
		t.Errorf("%T: the copy differs: %v", x, y)
	}
	old, fresh := map[uintptr]bool{}, map[uintptr]bool{}
	slicesOf(reflect.ValueOf(x), old)
	slicesOf(reflect.ValueOf(y), fresh)
	for p := range fresh {
		if old[p] {
			t.Errorf("%T: memory is shared", x)
		}
	}
	if len(old) != len(fresh) {
		t.Errorf("%T: slices of the copy share memory", x)
	}
}

func TestCopies(t *testing.T) {
	check(t, copies.Tree)
	check(t, copies.Hierarchy)
	check(t, copies.Settings)
	check(t, copies.Configs)
	check(t, copies.Branches)
	check(t, copies.Pool)
	check(t, copies.Pools)
	check(t, copies.Machine)
	check(t, copies.Processors)
	check(t, copies.Stock)
	check(t, copies.Objects)
	check(t, copies.Device)
	check(t, copies.Freezer)
	check(t, copies.Devices)
	check(t, copies.Setup)
	check(t, copies.System)
	check(t, copies.Programs)
	check(t, copies.World)
}
