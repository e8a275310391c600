package chain

import (
	"bytes"

	"respell/stream"
)

// Stream runs a chain over bytes as they come.
type Stream struct {
	joints []joint
	closed bool
}

// joint is what a stream of a chain has of a pass.
type joint struct{ *stream.Stream }

// last takes the bytes behind which nothing comes.
func (j joint) last(b []byte) []byte { return append(j.Put(b), j.Close()...) }

// Put takes bytes, and tells what is done; Close tells the rest.
func (x *Stream) Put(b []byte) []byte {
	if x.closed {
		return nil
	}
	var l []hand
	for _, j := range x.joints {
		l = append(l, j.Put)
	}
	return through(b, l)
}

func (x *Stream) Close() []byte {
	x.closed = true
	var l []hand
	for _, j := range x.joints {
		// Behind a first Close these tell nothing.
		l = append(l, j.last)
	}
	return through(nil, l)
}

// hand takes what is handed on to it, and tells what is to be handed on.
type hand func([]byte) []byte

// through hands bytes on from one to the next, and is what the last one tells.
func through(b []byte, l []hand) []byte {
	// Without any, the caller's own bytes would be told.
	told := bytes.Clone(b)
	for _, to := range l {
		told = to(told)
	}
	return told
}

// Held tells how many bytes each pass's stream holds.
func (x *Stream) Held() []int {
	var l []int
	for _, j := range x.joints {
		l = append(l, j.Held())
	}
	return l
}

// Clone goes its own way.
func (x *Stream) Clone() *Stream {
	other := &Stream{closed: x.closed}
	for _, j := range x.joints {
		other.joints = append(other.joints, joint{j.Clone()})
	}
	return other
}
