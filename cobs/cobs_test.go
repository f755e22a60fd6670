package cobs

import (
	"bytes"
	"math"
	"strings"
	"testing"

	"trickle/api"
)

// definition is the encoding, built as the chapter describes it: groups are listed first, then written.
func definition(b []byte) []byte {
	var groups [][]byte
	for place, last := 0, false; !last; {
		start := place
		for place < len(b) && b[place] != 0 && place-start < 254 {
			place++
		}
		groups = append(groups, b[start:place])
		last = place == len(b)
		if !last && place-start < 254 {
			place++
		}
	}
	var encoding []byte
	for _, group := range groups {
		encoding = append(encoding, byte(len(group)+1))
		encoding = append(encoding, group...)
	}
	return append(encoding, 0)
}

// inverse returns the data whose encoding is b, and whether there are any. It follows the code bytes without
// a check, which finds the data if b is an encoding, and then compares the encoding of what it found.
func inverse(b []byte) ([]byte, bool) {
	var data []byte
	for place := 0; place < len(b)-1; {
		code := int(b[place])
		if code == 0 {
			return nil, false
		}
		data = append(data, b[place+1:min(place+code, len(b)-1)]...)
		place += code
		if code < 255 && place < len(b)-1 {
			data = append(data, 0)
		}
	}
	return data, bytes.Equal(definition(data), b)
}

// ones returns n bytes 1.
func ones(n int) []byte {
	return bytes.Repeat([]byte{1}, n)
}

// mixed returns n bytes of all values, of which on average one in so many is 0.
func mixed(n, zeroes int) []byte {
	b := make([]byte, n)
	state := uint32(n + zeroes)
	for i := range b {
		state = state*1103515245 + 12345
		if int(state>>8)%zeroes > 0 {
			b[i] = byte(1 + state>>16%255)
		}
	}
	return b
}

// cat returns a new slice with all parts.
func cat(parts ...[]byte) []byte {
	return bytes.Join(parts, nil)
}

// lengths are those of runs at which groups begin and end.
var lengths = []int{0, 1, 2, 3, 127, 128, 252, 253, 254, 255, 256, 257, 507, 508, 509, 510, 761, 762, 763, 1016}

// samples returns data with zero bytes at every kind of place between runs of every kind.
func samples() [][]byte {
	list := [][]byte{nil, {}, {0}, {0, 0}, {255}, {254, 255, 0, 255}, []byte("123456789")}
	zero := []byte{0}
	for _, n := range lengths {
		run := ones(n)
		list = append(list, run, bytes.Repeat([]byte{255}, n), make([]byte, n))
		list = append(list, cat(zero, run), cat(run, zero), cat(zero, run, zero), cat(run, zero, zero), cat(zero, zero, run))
		for _, m := range lengths {
			list = append(list, cat(run, zero, ones(m)), cat(run, zero, zero, ones(m), zero))
		}
	}
	for n := range 300 {
		list = append(list, mixed(n, 4), mixed(n+200, 300))
	}
	return append(list, mixed(5000, 150), mixed(65535, 254), mixed(65536, 1000), mixed(65537, 3), mixed(1000000, 500))
}

// eachString calls f with all strings of the bytes of an alphabet up to a length.
func eachString(alphabet []byte, most int, f func(b []byte)) {
	var extend func(b []byte)
	extend = func(b []byte) {
		f(b)
		if len(b) == most {
			return
		}
		for _, c := range alphabet {
			extend(append(b[:len(b):len(b)], c))
		}
	}
	extend(nil)
}

// P3.1: the chapter's examples, and encodings of data with runs of the greatest length and around it.
func TestExamples(t *testing.T) {
	for _, x := range []struct{ data, encoding string }{
		{"", "\x01\x00"},
		{"\x00", "\x01\x01\x00"},
		{"\x00\x00", "\x01\x01\x01\x00"},
		{"\x01", "\x02\x01\x00"},
		{"\x00\x01", "\x01\x02\x01\x00"},
		{"\x01\x00", "\x02\x01\x01\x00"},
		{"\x01\x00\x00\x02", "\x02\x01\x01\x02\x02\x00"},
		{"\x11\x22\x00\x33", "\x03\x11\x22\x02\x33\x00"},
		{"\xFF\xFF", "\x03\xFF\xFF\x00"},
		{strings.Repeat("\x01", 253), "\xFE" + strings.Repeat("\x01", 253) + "\x00"},
		{strings.Repeat("\x01", 254), "\xFF" + strings.Repeat("\x01", 254) + "\x00"},
		{strings.Repeat("a", 255), "\xFF" + strings.Repeat("a", 254) + "\x02a\x00"},
		{strings.Repeat("a", 508), "\xFF" + strings.Repeat("a", 254) + "\xFF" + strings.Repeat("a", 254) + "\x00"},
		{strings.Repeat("a", 253) + "\x00", "\xFE" + strings.Repeat("a", 253) + "\x01\x00"},
		{strings.Repeat("a", 254) + "\x00", "\xFF" + strings.Repeat("a", 254) + "\x01\x01\x00"},
		{strings.Repeat("a", 254) + "\x00b", "\xFF" + strings.Repeat("a", 254) + "\x01\x02b\x00"},
		{"\x00" + strings.Repeat("a", 254), "\x01\xFF" + strings.Repeat("a", 254) + "\x00"},
	} {
		if v := Encode([]byte(x.data)); string(v) != x.encoding {
			t.Errorf("Encode(%q) = %q, want %q", x.data, v, x.encoding)
		}
		if v, e := Decode([]byte(x.encoding)); string(v) != x.data || e != api.OK {
			t.Errorf("Decode(%q) = %q, %d", x.encoding, v, e)
		}
	}
}

// P3.1: Encode follows the definition.
func TestEncode(t *testing.T) {
	for _, b := range samples() {
		if v := Encode(b); !bytes.Equal(v, definition(b)) {
			t.Fatalf("Encode of %d bytes is wrong", len(b))
		}
	}
	eachString([]byte{0, 1, 2, 255}, 7, func(b []byte) {
		if v := Encode(b); !bytes.Equal(v, definition(b)) {
			t.Fatalf("Encode(%v) = %v", b, v)
		}
	})
}

// P3.2: an encoding has one zero byte, at its end, and at most the greatest size.
func TestShapeOfEncodings(t *testing.T) {
	for _, b := range samples() {
		v := Encode(b)
		if bytes.IndexByte(v, 0) != len(v)-1 {
			t.Fatalf("the encoding of %d bytes has its first zero byte at %d of %d", len(b), bytes.IndexByte(v, 0), len(v))
		}
		if len(v) > Size(len(b)) {
			t.Fatalf("the encoding of %d bytes has %d bytes, more than %d", len(b), len(v), Size(len(b)))
		}
	}
}

// P3.1, P3.2: Decode is the inverse of Encode.
func TestDecodeOfEncode(t *testing.T) {
	check := func(b []byte) {
		if v, e := Decode(Encode(b)); !bytes.Equal(v, b) || e != api.OK {
			t.Fatalf("Decode(Encode(%d bytes)) has %d bytes, %d", len(b), len(v), e)
		}
	}
	for _, b := range samples() {
		check(b)
	}
	eachString([]byte{0, 1, 2, 255}, 7, check)
}

// checkDecode tests Decode with any bytes.
func checkDecode(t *testing.T, b []byte) {
	t.Helper()
	want, errno := []byte(nil), api.ErrTruncated
	if len(b) > 0 && b[len(b)-1] == 0 {
		errno = api.ErrSyntax
		if data, ok := inverse(b); ok {
			want, errno = data, api.OK
		}
	}
	if v, e := Decode(b); !bytes.Equal(v, want) || e != errno {
		t.Fatalf("Decode(%v) = %v, %d, want %v, %d", b, v, e, want, errno)
	}
}

// P3.1: an empty slice and bytes without a zero byte at the end are truncated, also where what is there
// could not be completed.
func TestDecodeTruncated(t *testing.T) {
	for _, b := range [][]byte{nil, {}, {1}, {2, 1}, {5, 1}, {255}, {0, 1}, {1, 0, 1}, {3, 0, 1}, {1, 0, 0, 1}, ones(1000), cat([]byte{255}, ones(254))} {
		if v, e := Decode(b); len(v) != 0 || e != api.ErrTruncated {
			t.Errorf("Decode(%v) = %v, %d", b, v, e)
		}
	}
	for _, b := range samples() {
		encoding := Encode(b)
		if v, e := Decode(encoding[:len(encoding)-1]); len(v) != 0 || e != api.ErrTruncated {
			t.Fatalf("Decode of %d bytes without the last = %v, %d", len(encoding), v, e)
		}
	}
}

// P3.1: bytes that end with a zero byte and are no encoding are malformed.
func TestDecodeSyntax(t *testing.T) {
	full := cat([]byte{255}, ones(254))
	for _, b := range [][]byte{
		{0}, {0, 0}, {1, 0, 0}, {0, 1, 0}, {1, 0, 1, 0}, {2, 0}, {2, 0, 0}, {3, 1, 0}, {3, 1, 0, 0}, {1, 2, 0}, {255, 0}, {255, 1, 0},
		cat([]byte{255}, ones(253), []byte{0}),
		cat([]byte{255}, ones(253), []byte{0, 0}),
		cat([]byte{254}, ones(252), []byte{0}),
		cat(full, []byte{0, 0}),
		cat(full, []byte{2, 0}),
		// The empty group behind a full one: other encoders write it, but the data end with the full group.
		cat(full, []byte{1, 0}),
		cat(full, full, []byte{1, 0}),
		cat([]byte{1}, full, []byte{1, 0}),
	} {
		if v, e := Decode(b); len(v) != 0 || e != api.ErrSyntax {
			t.Errorf("Decode(%v) = %v, %d", b, v, e)
		}
	}
}

// P3.1: of all short slices, Decode accepts the encodings.
func TestDecodeEverything(t *testing.T) {
	eachString([]byte{0, 1, 2, 3, 4, 254, 255}, 6, func(b []byte) { checkDecode(t, b) })
	eachString([]byte{0, 1, 2, 3}, 9, func(b []byte) { checkDecode(t, b) })
}

// P3.1: Decode accepts no slice that is almost the encoding of long runs.
func TestDecodeChanged(t *testing.T) {
	for _, n := range []int{252, 253, 254, 255, 256, 508, 509} {
		for _, b := range [][]byte{ones(n), cat(ones(n), []byte{0}), cat([]byte{0}, ones(n)), cat(ones(n), []byte{0, 7}), mixed(n, 100)} {
			encoding := Encode(b)
			for place := range encoding {
				before, at, after := encoding[:place], encoding[place:], encoding[place+1:]
				checkDecode(t, cat(before, after))
				for _, c := range []byte{0, 1, 2, 3, 127, 253, 254, 255} {
					checkDecode(t, cat(before, []byte{c}, at))
					checkDecode(t, cat(before, []byte{c}, after))
				}
			}
		}
	}
}

// P3.1, P3.2: Size is the length of the longest encoding, that of a slice without zero bytes.
func TestSize(t *testing.T) {
	for n := range 3000 {
		if v := Size(n); v != len(definition(ones(n))) {
			t.Fatalf("Size(%d) = %d", n, v)
		}
	}
	for _, x := range []struct{ n, size int }{
		{0, 2}, {1, 3}, {2, 4}, {253, 255}, {254, 256}, {255, 258}, {256, 259}, {508, 511}, {509, 513}, {65536, 65796},
		{-1, 0}, {-2, 0}, {-253, 0}, {-254, 0}, {-255, 0}, {-65536, 0}, {math.MinInt32, 0}, {math.MinInt, 0},
		{1 << 30, 1<<30 + 1 + 4227331}, {math.MaxInt32, math.MaxInt32 + 1 + 8454661},
	} {
		if v := Size(x.n); v != x.size {
			t.Errorf("Size(%d) = %d, want %d", x.n, v, x.size)
		}
	}
}

// packets returns what a splitter makes of a whole stream, and how many candidates it skips.
func packets(most int, stream []byte) ([][]byte, int) {
	var list [][]byte
	skipped := 0
	candidates := bytes.SplitAfter(stream, []byte{0})
	for _, candidate := range candidates[:len(candidates)-1] {
		data, ok := inverse(candidate)
		switch {
		case len(candidate) == 1:
		case ok && len(data) <= most:
			list = append(list, data)
		default:
			skipped++
		}
	}
	return list, skipped
}

// same reports whether two lists contain the same packets.
func same(a, b [][]byte) bool {
	if len(a) != len(b) {
		return false
	}
	for i := range a {
		if !bytes.Equal(a[i], b[i]) {
			return false
		}
	}
	return true
}

// newSplitter returns a splitter with a limit that is permitted.
func newSplitter(t *testing.T, most int) *Splitter {
	t.Helper()
	s, e := NewSplitter(most)
	if s == nil || e != api.OK {
		t.Fatalf("NewSplitter(%d) = %v, %d", most, s, e)
	}
	return s
}

// checkParts tests that a splitter that gets a stream in parts has, after each of them, returned and skipped
// what the stream up to there contains.
func checkParts(t *testing.T, most int, parts ...[]byte) {
	t.Helper()
	s := newSplitter(t, most)
	var stream []byte
	var got [][]byte
	for _, part := range parts {
		stream = append(stream, part...)
		got = append(got, s.Write(part)...)
		want, skipped := packets(most, stream)
		if !same(got, want) || s.Skipped() != skipped {
			t.Fatalf("most %d, after %d bytes, %v: %d packets, %d skipped, want %d, %d", most, len(stream), stream[:min(len(stream), 40)], len(got), s.Skipped(), len(want), skipped)
		}
	}
}

// P3.1: the limit of a splitter is between 1 and 65536.
func TestNewSplitter(t *testing.T) {
	for _, most := range []int{1, 2, 253, 254, 255, 65535, 65536} {
		s := newSplitter(t, most)
		if s.Skipped() != 0 {
			t.Errorf("most %d: %d skipped at the start", most, s.Skipped())
		}
		if v := s.Write(nil); len(v) != 0 || s.Skipped() != 0 {
			t.Errorf("most %d: no bytes give %v, %d skipped", most, v, s.Skipped())
		}
	}
	for _, most := range []int{0, -1, -65536, 65537, 65538, 131072, math.MinInt32, math.MinInt, math.MaxInt32, math.MaxInt} {
		if s, e := NewSplitter(most); s != nil || e != api.ErrInvalid {
			t.Errorf("NewSplitter(%d) = %v, %d", most, s, e)
		}
	}
}

// P3.1: packets in order, with empty packets, ignored and skipped candidates between them.
func TestSplitter(t *testing.T) {
	s := newSplitter(t, 3)
	for _, x := range []struct {
		part    string
		packets []string
		skipped int
	}{
		{"\x02a\x00", []string{"a"}, 0},
		{"\x02b\x00\x02c\x00", []string{"b", "c"}, 0},
		{"\x00", nil, 0},
		{"\x00\x00\x00\x02d\x00\x00", []string{"d"}, 0},
		{"\x01\x00", []string{""}, 0},
		{"\x01\x00\x01\x01\x00\x01\x00", []string{"", "\x00", ""}, 0},
		{"\x03a", nil, 0},
		{"", nil, 0},
		{"b", nil, 0},
		{"\x00", []string{"ab"}, 0},
		{"\x05a\x00", nil, 1},
		{"\x04abc\x00", []string{"abc"}, 1},
		{"\x05abcd\x00", nil, 2},
		{"\x01\x01\x01\x01\x00", []string{"\x00\x00\x00"}, 2},
		{"\x01\x01\x01\x01\x01\x00", nil, 3},
		{"\x05abcd\x02e\x02f\x02g", nil, 3},
		{"\x02h\x02i", nil, 3},
		{"\x00\x02j\x00\x09\x00\x02k\x00", []string{"j", "k"}, 5},
		{"\x02l", nil, 5},
	} {
		var want [][]byte
		for _, packet := range x.packets {
			want = append(want, []byte(packet))
		}
		if v := s.Write([]byte(x.part)); !same(v, want) || s.Skipped() != x.skipped {
			t.Fatalf("Write(%q) = %q, %d skipped, want %q, %d", x.part, v, s.Skipped(), x.packets, x.skipped)
		}
	}
}

// P3.1: splitters have states of their own.
func TestSplittersApart(t *testing.T) {
	a, b := newSplitter(t, 5), newSplitter(t, 5)
	a.Write([]byte("\x09\x00\x03a"))
	if v := b.Write([]byte("\x02b\x00")); !same(v, [][]byte{[]byte("b")}) || b.Skipped() != 0 {
		t.Errorf("the second splitter returned %q and skipped %d", v, b.Skipped())
	}
	if v := a.Write([]byte("c\x00")); !same(v, [][]byte{[]byte("ac")}) || a.Skipped() != 1 {
		t.Errorf("the first splitter returned %q and skipped %d", v, a.Skipped())
	}
}

// P3.1: of all short candidates, a splitter accepts the encodings of slices that are not too long.
func TestSplitterEverything(t *testing.T) {
	for most := 1; most <= 5; most++ {
		s := newSplitter(t, most)
		skipped := 0
		eachString([]byte{1, 2, 3, 4, 255}, 6, func(b []byte) {
			candidate := cat(b, []byte{0})
			want, more := packets(most, candidate)
			skipped += more
			if v := s.Write(candidate); !same(v, want) || s.Skipped() != skipped {
				t.Fatalf("most %d: Write(%v) = %v, %d skipped, want %v, %d", most, candidate, v, s.Skipped(), want, skipped)
			}
		})
	}
}

// P3.1: packets up to the limit and beyond it, with and without zero bytes. A slice that is too long may have
// an encoding that is no longer than that of a packet, and the start of a candidate may look like a packet.
func TestSplitterLimit(t *testing.T) {
	for _, most := range []int{1, 2, 3, 252, 253, 254, 255, 256, 507, 508, 509, 65535, 65536} {
		var stream []byte
		for n := max(0, most-3); n <= most+3; n++ {
			zeroInside := ones(n)
			if n > 0 {
				zeroInside[n/2] = 0
			}
			for _, b := range [][]byte{ones(n), zeroInside, make([]byte, n)} {
				encoding := Encode(b)
				stream = cat(stream, encoding, encoding[:len(encoding)-1], []byte{2, 9, 0}, []byte{2, 9}, encoding)
			}
		}
		half := len(stream) / 2
		checkParts(t, most, stream)
		checkParts(t, most, stream[:half], stream[half:])
		checkParts(t, most, Encode(ones(most)), Encode(ones(most+1)), Encode(ones(most)))
	}
}

// P3.1: a candidate that is far too long is skipped once, when it ends, and the next packet is found. What
// has been read of it is not kept, so that a stream without zero bytes takes no memory.
func TestSplitterEndless(t *testing.T) {
	for _, most := range []int{1, 300, 65536} {
		s := newSplitter(t, most)
		for range 40 {
			if v := s.Write(ones(50000)); len(v) != 0 || s.Skipped() != 0 {
				t.Fatalf("most %d: %v, %d skipped", most, v, s.Skipped())
			}
			if len(s.candidate) > Size(most) {
				t.Fatalf("most %d: %d bytes are kept", most, len(s.candidate))
			}
		}
		if v := s.Write([]byte("\x02a\x00\x02b\x00")); !same(v, [][]byte{[]byte("b")}) || s.Skipped() != 1 {
			t.Errorf("most %d: %q, %d skipped", most, v, s.Skipped())
		}
	}
}

// stream returns packets of several lengths between ignored and malformed candidates, and no end.
func stream() []byte {
	full := Encode(ones(254))
	return cat(
		[]byte{0}, Encode(nil), Encode([]byte{0}), Encode([]byte("\x11\x22\x00\x33")), []byte{0, 0, 5, 1, 0, 1, 0},
		full, Encode(ones(253)), Encode(ones(255)), full[:255], []byte{1, 0}, full[1:], Encode(mixed(300, 20)),
		Encode(cat(ones(254), []byte{0})), []byte{2, 2, 2, 2, 0, 3, 7, 7, 0, 4, 8},
	)
}

// P3.2: the packets do not depend on where the stream is divided into two parts.
func TestSplitterDividedOnce(t *testing.T) {
	s := stream()
	for _, most := range []int{1, 2, 4, 253, 254, 255, 1000, 65536} {
		for place := range len(s) + 1 {
			checkParts(t, most, s[:place], s[place:])
		}
	}
}

// P3.2: nor on how many parts there are, and how many bytes each of them has.
func TestSplitterDividedOften(t *testing.T) {
	s := stream()
	for _, most := range []int{1, 4, 254, 255, 65536} {
		for _, size := range []int{1, 2, 3, 7, 100, 254, 255, 256, 257} {
			var parts [][]byte
			for start := 0; start < len(s); start += size {
				parts = append(parts, s[start:min(start+size, len(s))], nil)
			}
			checkParts(t, most, parts...)
		}
	}
	short := []byte{0, 3, 1, 2, 0, 9, 0, 1, 1, 0, 3, 2, 2, 2, 2, 0, 2, 5}
	for divisions := range 1 << (len(short) - 1) {
		var parts [][]byte
		start := 0
		for end := 1; end <= len(short); end++ {
			if end == len(short) || divisions>>(end-1)&1 == 1 {
				parts = append(parts, short[start:end])
				start = end
			}
		}
		checkParts(t, 2, parts...)
	}
}

// Rules: results share no memory with arguments, and the arguments are not changed, nor the memory behind them.
func TestMemory(t *testing.T) {
	memory := []byte("\x03ab\x02c\x00behind")
	before := string(memory)
	encoding := Encode(memory[:6])
	data, e := Decode(memory[:6])
	if e != api.OK || string(memory) != before {
		t.Fatalf("the argument was changed: %q, %d", memory, e)
	}
	clear(memory)
	if string(encoding) != "\x06\x03ab\x02c\x01\x00" || string(data) != "ab\x00c" {
		t.Errorf("the results %q and %q share memory with the argument", encoding, data)
	}
	_ = append(data, "yyyy"...)
	_ = append(encoding, "yyyy"...)
	if string(memory) != strings.Repeat("\x00", len(memory)) {
		t.Errorf("the memory behind a result is the argument's: %q", memory)
	}
}

// Rules: a splitter keeps none of the slices that it gets, and the packets that it returns are not its own.
func TestSplitterMemory(t *testing.T) {
	s := newSplitter(t, 10)
	memory := []byte("\x03ab\x00\x03cd\x00\x03ebehind")
	before := string(memory)
	first := s.Write(memory[:10])
	if string(memory) != before {
		t.Fatalf("the argument was changed: %q", memory)
	}
	clear(memory)
	_ = append(first[0], "xxxxxxxxxxxxxxxx"...)
	second := s.Write([]byte("f\x00\x04ghi\x00"))
	if !same(first, [][]byte{[]byte("ab"), []byte("cd")}) {
		t.Errorf("the first packets became %q", first)
	}
	if !same(second, [][]byte{[]byte("ef"), []byte("ghi")}) {
		t.Errorf("the second packets are %q", second)
	}
	clear(second[0])
	clear(first[1])
	third := s.Write([]byte("\x03jk\x00"))
	if !same(third, [][]byte{[]byte("jk")}) || string(second[1]) != "ghi" || string(first[0]) != "ab" {
		t.Errorf("packets share memory: %q, %q, %q", first, second, third)
	}
}
