package message

import (
	"variantproxy/api"
	"variantproxy/ascii"
	"variantproxy/chunk"
	"variantproxy/crlf"
	"variantproxy/fieldline"
	"variantproxy/startline"
)

// framing tells where a body ends.
type framing int

const (
	unframed    framing = iota // the head does not tell
	countedBody                // after a number of bytes
	chunkedBody                // with the last chunk
)

const maxLengthDigits = 9

// reader reads what requests and responses have in common. The parsers of both
// embed it.
type reader struct {
	input  string
	rest   string // what has not been read of the input
	fields []api.Field
	frame  framing
	length int // the length of a counted body
}

// bytesRead returns the number of bytes that have been read.
func (r *reader) bytesRead() int {
	return len(r.input) - len(r.rest)
}

// readHead reads the head, of which readStart keeps the start line, and then
// judges the framing fields.
func (r *reader) readHead(readStart func(line string) api.Errno) api.Errno {
	line, errno := r.nextHeadLine()
	if errno != api.OK {
		return errno
	}
	if errno := readStart(line); errno != api.OK {
		return errno
	}
	if errno := r.readFields(); errno != api.OK {
		return errno
	}
	return r.takeFraming()
}

// nextHeadLine reads a line of the head, which must fit into the head together
// with its CRLF.
func (r *reader) nextHeadLine() (string, api.Errno) {
	line, rest, errno := crlf.CutLine(r.rest)
	if errno != api.OK {
		return "", errno
	}
	r.rest = rest
	if r.bytesRead() > api.MaxHead {
		return "", api.ErrLong
	}
	return line, api.OK
}

// readFields reads the field lines and the empty line after them. The framing
// fields are counted like all others.
func (r *reader) readFields() api.Errno {
	for {
		line, errno := r.nextHeadLine()
		switch {
		case errno != api.OK:
			return errno
		case line == "":
			return api.OK
		case len(r.fields) == api.MaxFields:
			return api.ErrLong
		}
		field, errno := fieldline.Parse(line)
		if errno != api.OK {
			return errno
		}
		r.fields = append(r.fields, field)
	}
}

// takeFraming removes the framing fields from the fields and keeps what they
// tell.
func (r *reader) takeFraming() api.Errno {
	codings := fieldline.Get(r.fields, codingName)
	lengths := fieldline.Get(r.fields, lengthName)
	r.fields = withoutFraming(r.fields)
	if len(codings) > 0 {
		return r.takeCoding(codings, lengths)
	}
	return r.takeLength(lengths)
}

// takeCoding keeps the coding that the one or more fields with codings tell.
func (r *reader) takeCoding(codings, lengths []string) api.Errno {
	switch {
	case len(codings) > 1, !ascii.Fold(codings[0], "chunked"):
		return api.ErrCoding
	case len(lengths) > 0:
		return api.ErrLength
	}
	r.frame = chunkedBody
	return api.OK
}

// takeLength keeps the length that the fields with lengths tell, if there are
// such fields.
func (r *reader) takeLength(lengths []string) api.Errno {
	switch len(lengths) {
	case 0:
		return api.OK
	case 1:
		// A value with more digits is refused even if they are zeros.
		length, ok := ascii.Number(lengths[0])
		if ok && len(lengths[0]) <= maxLengthDigits {
			r.frame, r.length = countedBody, length
			return api.OK
		}
	}
	return api.ErrLength
}

// readBody reads the body that the framing fields tell, which is empty if they
// tell nothing.
func (r *reader) readBody() (string, api.Errno) {
	switch r.frame {
	case countedBody:
		return r.readCountedBody()
	case chunkedBody:
		return r.readChunkedBody()
	}
	return "", api.OK
}

func (r *reader) readCountedBody() (string, api.Errno) {
	switch {
	case r.length > api.MaxBody:
		return "", api.ErrBody
	case r.length > len(r.rest):
		return "", api.ErrShort
	}
	body := r.rest[:r.length]
	r.rest = r.rest[r.length:]
	return body, api.OK
}

func (r *reader) readChunkedBody() (string, api.Errno) {
	body, count, errno := chunk.Decode(r.rest)
	if errno != api.OK {
		return "", errno
	}
	r.rest = r.rest[count:]
	return body, api.OK
}

// requestParser reads a request.
type requestParser struct {
	reader
	request api.Request
}

func (p *requestParser) parse() api.Errno {
	if errno := p.readHead(p.readStartLine); errno != api.OK {
		return errno
	}
	if !p.isHostClear() {
		return api.ErrHost
	}
	body, errno := p.readBody()
	if errno != api.OK {
		return errno
	}
	p.request.Fields, p.request.Body = p.fields, body
	return api.OK
}

func (p *requestParser) readStartLine(line string) api.Errno {
	method, target, minor, errno := startline.ParseRequest(line)
	p.request = api.Request{Method: method, Target: target, Minor: minor}
	return errno
}

// isHostClear reports whether there are as many Host fields as the version of
// the request permits. HTTP/1.0 did not demand one.
func (p *requestParser) isHostClear() bool {
	switch len(fieldline.Get(p.fields, "Host")) {
	case 0:
		return p.request.Minor == 0
	case 1:
		return true
	}
	return false
}

// responseParser reads the response to a request with this method. If closed
// is true, nothing will come after the input.
type responseParser struct {
	reader
	method   string
	closed   bool
	response api.Response
}

func (p *responseParser) parse() api.Errno {
	if errno := p.readHead(p.readStartLine); errno != api.OK {
		return errno
	}
	body, errno := p.readResponseBody()
	if errno != api.OK {
		return errno
	}
	p.response.Fields, p.response.Body = p.fields, body
	return api.OK
}

func (p *responseParser) readStartLine(line string) api.Errno {
	minor, status, reason, errno := startline.ParseStatus(line)
	p.response = api.Response{Minor: minor, Status: status, Reason: reason}
	return errno
}

// readResponseBody reads the body of a response. Unlike a request, it may be
// without a body in spite of its framing fields, or with one without them.
func (p *responseParser) readResponseBody() (string, api.Errno) {
	switch {
	case Bodiless(p.response.Status, p.method):
		return "", api.OK
	case p.frame != unframed:
		return p.readBody()
	case !p.closed:
		// More bytes of the body may follow.
		return "", api.ErrShort
	}
	p.length = len(p.rest)
	return p.readCountedBody()
}
