// Package path is layer 1: the paths of nodes. See shared/doc/01-path.md.
package path

import (
	"slices"
	"strconv"
	"strings"

	"canton/api"
)

const root = "/"

// Right reports whether p is a path.
func Right(p string) bool {
	_, ok := Split(p)
	return ok
}

// Split returns the parts of p in order (none for the root), and whether p is a path.
func Split(p string) ([]string, bool) {
	var parts []string
	rest := p
	if p == root {
		return nil, true
	}
	for range api.MaxDeep {
		part, after := cut(rest)
		if part == "" {
			goto malformed
		}
		parts = append(parts, part)
		if after == "" {
			return parts, true
		}
		rest = after
	}

	// A text that still goes on behind MaxDeep parts comes here without a jump.
malformed:
	return nil, false
}

// Parent returns p without its last part, and whether there is such a path.
func Parent(p string) (string, bool) {
	parts, ok := Split(p)
	if !ok || len(parts) == 0 {
		return "", false
	}
	return whole(parts[:len(parts)-1]), true
}

// Last returns the last part of p, or the empty string if there is none.
func Last(p string) string {
	parts, _ := Split(p)
	if len(parts) == 0 {
		return ""
	}
	return parts[len(parts)-1]
}

// Join returns p with part behind it, and whether that is a path.
func Join(p string, part string) (string, bool) {
	parts, ok := Split(p)
	if !ok || !isPart(part) || len(parts) == api.MaxDeep {
		return "", false
	}
	return whole(append(parts, part)), true
}

// In reports whether p is the path q, or lies somewhere below it.
func In(p string, q string) bool {
	inner, ok := Split(p)
	if !ok {
		return false
	}
	outer, ok := Split(q)
	if !ok || len(outer) > len(inner) {
		return false
	}
	return slices.Equal(outer, inner[:len(outer)])
}

// Numbered returns part with the four digits of n behind it, and whether that is a part.
func Numbered(part string, n int) (string, bool) {
	// The length is asked first so that a text of any size is refused without being copied.
	if n < 0 || n > api.MaxTurn || len(part) > api.MaxPart {
		return "", false
	}
	digits := strconv.Itoa(n)
	numbered := part + "0000"[len(digits):] + digits
	if !isPart(numbered) {
		return "", false
	}
	return numbered, true
}

// whole is the path of parts, which are as many as a path may have.
func whole(parts []string) string {
	return root + strings.Join(parts, "/")
}

// cut takes a slash and the part behind it off the front of s; the part is empty if they are not there.
func cut(s string) (part string, rest string) {
	if s == "" || s[0] != '/' {
		return "", ""
	}
	end := 1 + partLen(s[1:])
	return s[1:end], s[end:]
}

func isPart(s string) bool {
	return s != "" && partLen(s) == len(s)
}

// partLen is how many bytes at the front of s may be a part. It stops at MaxPart: what goes on behind that is refused by whoever asks, since it is neither a slash nor the end.
func partLen(s string) int {
	n := 0
	for n < len(s) && n < api.MaxPart && isPartByte(s[n]) {
		n++
	}
	return n
}

func isPartByte(c byte) bool {
	return 'a' <= c && c <= 'z' || '0' <= c && c <= '9' || c == '-'
}
