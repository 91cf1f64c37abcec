package binary

import (
	"bytes"

	"letterbox/b64"
	"letterbox/qp"
	"letterbox/tree"
)

// The encodings of bodies that stand as they are.
const (
	sevenBit = "7bit"
	eightBit = "8bit"
	anyBit   = "binary"
)

// undoer is how the bytes of an encoding's text are told; false: it is broken.
type undoer func(text []byte) ([]byte, bool)

// undoers are those of the encodings that hide bytes, by their names.
func undoers() map[string]undoer {
	return map[string]undoer{
		"base64":           b64.Decode,
		"quoted-printable": qp.Decode,
	}
}

// bare is a part's body as it was ahead of its encoding; false: that isn't known, or is broken.
func bare(b []byte, p tree.Part) ([]byte, bool) {
	body := bytesOf(b, p.Body)
	encoding := Encoding(b, p)
	switch {
	case p.Kind == tree.Multi:
		// Whatever it tells counts for nothing: the encodings are those of its parts.
		fallthrough
	case encoding == sevenBit, encoding == eightBit, encoding == anyBit:
		return bytes.Clone(body), true
	}
	undo, is := undoers()[encoding]
	if !is {
		return nil, false
	}
	return undo(body)
}
