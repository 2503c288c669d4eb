// Package crlf cuts lines off a text, as promise 5.2 in the chapter
// 05-chunk.md of the document says. It is a package of its own because chunked
// bodies and the heads of messages consist of the same lines.
package crlf

import (
	"strings"

	"variantproxy/api"
)

// CutLine returns the line at the beginning of s, without its CRLF, and what
// follows the CRLF, or the first of ErrLong, ErrShort and ErrSyntax that applies.
func CutLine(s string) (string, string, api.Errno) {
	end := strings.IndexAny(s, "\r\n")
	if end < 0 {
		end = len(s)
	}
	// A line that is too long is refused even before its end has arrived.
	if end > api.MaxLine {
		return "", "", api.ErrLong
	}
	rest, errno := CutEnd(s[end:])
	if errno != api.OK {
		return "", "", errno
	}
	return s[:end], rest, api.OK
}

// CutEnd returns what follows the CRLF at the beginning of s, ErrShort if s is
// only a part of a CRLF, and ErrSyntax if it begins with anything else.
func CutEnd(s string) (string, api.Errno) {
	rest, found := strings.CutPrefix(s, "\r\n")
	switch {
	case found:
		return rest, api.OK
	case s == "", s == "\r":
		return "", api.ErrShort
	}
	return "", api.ErrSyntax
}
