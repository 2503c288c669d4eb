// Package piece cuts values at a separator outside quoted strings, as promise
// 7.1 in the chapter 07-list.md of the document says. It is a package of its own
// because the members of lists and the parameters of values (9.1) are separated
// in the same way, though by different bytes.
package piece

// Cut returns what stands before the first separator outside quoted strings,
// what follows it, and whether there is such a separator. Without one, the whole
// value is the piece.
func Cut(value string, separator byte) (string, string, bool) {
	position := unquoted
	for i := range len(value) {
		if position == unquoted && value[i] == separator {
			return value[:i], value[i+1:], true
		}
		position = position.after(value[i])
	}
	return value, "", false
}

// state tells where in a value the scanner is.
type state int

const (
	unquoted state = iota // outside quoted strings, where a separator separates
	quoted                // within a quoted string
	escaped               // within a quoted string, after a backslash
)

// after returns the state that follows s when the scanner has passed b.
func (s state) after(b byte) state {
	switch s {
	case unquoted:
		if b == '"' {
			return quoted
		}
		return unquoted
	case quoted:
		switch b {
		case '"':
			return unquoted
		case '\\':
			return escaped
		}
	}
	return quoted
}
