// Package name: names and paths of groups.
package name

import (
	"slices"
	"strings"

	"groupcontrol/api"
)

// Valid reports whether s is a name.
func Valid(s string) bool {
	strange := func(r rune) bool { return !inName(r) }
	return len(s) >= 1 && len(s) <= api.MaxName && s[0] != '-' && !strings.ContainsFunc(s, strange)
}

func inName(r rune) bool {
	return r >= 'a' && r <= 'z' || r >= 'A' && r <= 'Z' || r >= '0' && r <= '9' || r == '_' || r == '-'
}

// Split returns the names of a path.
func Split(path string) ([]string, api.Errno) {
	if !strings.HasPrefix(path, "/") {
		return nil, api.ErrText
	}
	if path == "/" {
		return nil, api.OK
	}
	parts := strings.Split(path[1:], "/")
	if e := check(parts); e != api.OK {
		return nil, e
	}
	return parts, api.OK
}

// Join returns the path of names.
func Join(parts []string) (string, api.Errno) {
	if e := check(parts); e != api.OK {
		return "", e
	}
	return "/" + strings.Join(parts, "/"), api.OK
}

// check returns what is wrong with the names of a path. The empty name is no name, so a path that ends with / is refused, too.
func check(parts []string) api.Errno {
	strange := func(s string) bool { return !Valid(s) }
	if slices.ContainsFunc(parts, strange) {
		return api.ErrText
	}
	if len(parts) > api.MaxDepth {
		return api.ErrLimit
	}
	return api.OK
}

// Under reports whether the path b is the path a, or below it.
func Under(a, b string) bool {
	above, e := Split(a)
	below, f := Split(b)
	return e == api.OK && f == api.OK && alike(above, below) == len(above)
}

// alike returns how many names two lists have in common at their beginnings.
func alike(a, b []string) int {
	n := 0
	for n < len(a) && n < len(b) && a[n] == b[n] {
		n++
	}
	return n
}

// Common returns the longest path under which both paths lie.
func Common(a, b string) (string, api.Errno) {
	left, e := Split(a)
	if e != api.OK {
		return "", e
	}
	right, e := Split(b)
	if e != api.OK {
		return "", e
	}
	return Join(left[:alike(left, right)])
}

// Compare orders strings: paths by their names, ahead of all other strings, and these bytewise.
func Compare(a, b string) int {
	left, e := Split(a)
	right, f := Split(b)
	switch {
	case e == api.OK && f == api.OK:
		return slices.Compare(left, right)
	case e == api.OK:
		return -1
	case f == api.OK:
		return 1
	}
	return strings.Compare(a, b)
}
