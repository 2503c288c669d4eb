package crlf_test

import (
	"strings"
	"testing"

	"variantproxy/api"
	"variantproxy/crlf"
)

// Promise 5.2

func TestCutLine(t *testing.T) {
	full := strings.Repeat("x", api.MaxLine)
	for _, c := range []struct {
		s, line, rest string
		errno         api.Errno
	}{
		{"\r\n", "", "", api.OK},
		{"a\r\n", "a", "", api.OK},
		{"a b\r\nc\r\n", "a b", "c\r\n", api.OK},
		{"\r\n\r\n", "", "\r\n", api.OK},
		{"a\r\n\n", "a", "\n", api.OK},
		{"\x00\t\xff\xc3\xa4\r\n\xff", "\x00\t\xff\xc3\xa4", "\xff", api.OK}, // the bytes of a line are not judged
		{full + "\r\n", full, "", api.OK},
		{full + "\r\n" + full, full, full, api.OK},
		{"", "", "", api.ErrShort},
		{"a", "", "", api.ErrShort},
		{"a\r", "", "", api.ErrShort},
		{"\r", "", "", api.ErrShort},
		{full, "", "", api.ErrShort},
		{full + "\r", "", "", api.ErrShort},
		{"\n", "", "", api.ErrSyntax},
		{"a\n", "", "", api.ErrSyntax},
		{"a\nb\r\n", "", "", api.ErrSyntax},
		{"a\rb\r\n", "", "", api.ErrSyntax},
		{"a\r\r\n", "", "", api.ErrSyntax},
		{"\n\r\n", "", "", api.ErrSyntax},
		{full + "\n", "", "", api.ErrSyntax},
		{full + "\rx", "", "", api.ErrSyntax},
		{full + "x", "", "", api.ErrLong},
		{full + "x\r\n", "", "", api.ErrLong},
		{full + "x\n", "", "", api.ErrLong},
		{full + "x\r", "", "", api.ErrLong},
		{full + full + "\rx", "", "", api.ErrLong},
	} {
		line, rest, errno := crlf.CutLine(c.s)
		if line != c.line || rest != c.rest || errno != c.errno {
			t.Errorf("CutLine of %d bytes, %.20q: %.20q, %.20q, %d", len(c.s), c.s, line, rest, errno)
		}
	}
}

func TestCutEnd(t *testing.T) {
	for _, c := range []struct {
		s, rest string
		errno   api.Errno
	}{
		{"\r\n", "", api.OK},
		{"\r\n\r\n", "\r\n", api.OK},
		{"\r\na", "a", api.OK},
		{"", "", api.ErrShort},
		{"\r", "", api.ErrShort},
		{"\n", "", api.ErrSyntax},
		{"\n\r", "", api.ErrSyntax},
		{"\r\r\n", "", api.ErrSyntax},
		{"\ra", "", api.ErrSyntax},
		{"a", "", api.ErrSyntax},
		{"a\r\n", "", api.ErrSyntax},
	} {
		if rest, errno := crlf.CutEnd(c.s); rest != c.rest || errno != c.errno {
			t.Errorf("CutEnd(%q) = %q, %d", c.s, rest, errno)
		}
	}
}
