package code

import "espalier/api"

// HeadSize is how many bytes a frame has ahead of what it holds: how many these are, and their sum.
const HeadSize = 8

// Frame puts bytes into a frame, by which Frames tells whether they are whole.
func Frame(b string) (string, api.Errno) {
	if b == "" {
		return "", api.ErrForm
	}
	if len(b) > api.MaxDisk {
		return "", api.ErrMany
	}
	out := make([]byte, 0, HeadSize+len(b))
	out = appendNumber(out, uint64(len(b)), 4)
	out = appendNumber(out, uint64(sum([]byte(b))), 4)
	return string(append(out, b...)), api.OK
}

// Frames tells what the whole frames at the front of b hold, and how many bytes they take.
func Frames(b string) (l []string, used int, e api.Errno) {
	if len(b) > 2*api.MaxDisk {
		return nil, 0, api.ErrMany
	}
	r := &reader{rest: []byte(b)}
	for {
		held := r.frame()
		if r.torn {
			return l, used, api.OK
		}
		l = append(l, string(held))
		used += HeadSize + len(held)
	}
}

// frame takes a frame off, and tells what it holds.
func (r *reader) frame() []byte {
	size, want := r.number(4), r.number(4)
	r.torn = r.torn || size == 0 || size > api.MaxDisk
	held := r.cut(int(size))
	r.torn = r.torn || uint64(sum(held)) != want
	return held
}

// sum is the CRC-32 of b.
func sum(b []byte) uint32 {
	s := ^uint32(0)
	for _, c := range b {
		s ^= uint32(c)
		for range 8 {
			out := s & 1
			s >>= 1
			if out == 1 {
				s ^= 0xEDB88320
			}
		}
	}
	return ^s
}
