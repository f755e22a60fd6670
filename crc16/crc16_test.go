package crc16

import (
	"bytes"
	"math"
	"strings"
	"testing"

	"trickle/api"
)

// register is the shift register of the definition, bit by bit.
func register(sum uint16, b []byte) uint16 {
	for _, c := range b {
		for place := 7; place >= 0; place-- {
			bit := uint16(c>>place) & 1
			t := sum>>15 ^ bit
			sum <<= 1
			if t == 1 {
				sum ^= 0x1021
			}
		}
	}
	return sum
}

// noise returns n bytes that follow no simple rule, others for each seed.
func noise(seed uint32, n int) []byte {
	b := make([]byte, n)
	state := seed*2654435761 + 1
	for i := range b {
		state = state*1664525 + 1013904223
		b[i] = byte(state >> 24)
	}
	return b
}

// samples returns strings of many lengths, and strings of bytes at the edges of their range.
func samples() [][]byte {
	list := [][]byte{nil, {}, {0}, {255}, {0, 0}, {255, 255}, {1, 0}, {0, 1}, []byte("123456789"), []byte("A")}
	for n := range 70 {
		list = append(list, noise(uint32(n), n), make([]byte, n), bytes.Repeat([]byte{255}, n))
	}
	for _, n := range []int{255, 256, 257, 1000, api.SlotSize, 65535, 65536, 65537} {
		list = append(list, noise(uint32(n), n))
	}
	return list
}

// sums are values of the register at which bits enter, leave or meet the polynomial.
var sums = []uint16{0, 1, 2, 0x0F, 0x10, 0x80, 0xFF, 0x100, 0x1020, 0x1021, 0x1022, 0x29B1, 0x7FFF, 0x8000, 0x8001, 0xEFDE, 0xFF00, 0xFFFE, 0xFFFF}

// join returns a new string.
func join(a, b []byte) []byte {
	return append(append([]byte{}, a...), b...)
}

// P2.1: the chapter's examples, and checksums that are published for this algorithm.
func TestSumExamples(t *testing.T) {
	for _, x := range []struct {
		text string
		sum  uint16
	}{
		{"", 0xFFFF},
		{"123456789", 0x29B1},
		{"A", 0xB915},
		{strings.Repeat("A", 256), 0xEA0B},
		{"\x00", 0xE1F0},
		{"\xFF", 0xFF00},
		{"\xFF\xFF", 0},
	} {
		if v := Sum([]byte(x.text)); v != x.sum {
			t.Errorf("Sum(%q) = %04X, want %04X", x.text, v, x.sum)
		}
	}
	if v := Sum(nil); v != 0xFFFF {
		t.Errorf("Sum(nil) = %04X", v)
	}
}

// P2.1: Sum is the final value of the register that starts with FFFF.
func TestSum(t *testing.T) {
	for _, b := range samples() {
		if v, want := Sum(b), register(0xFFFF, b); v != want {
			t.Fatalf("Sum of %d bytes = %04X, want %04X", len(b), v, want)
		}
	}
}

// P2.1: Update processes every byte from every value of the register.
func TestUpdateByte(t *testing.T) {
	for sum := range 65536 {
		for c := range 256 {
			if c%16 != 0 && c%16 != 15 && sum%37 != 0 {
				continue
			}
			b := []byte{byte(c)}
			if v, want := Update(uint16(sum), b), register(uint16(sum), b); v != want {
				t.Fatalf("Update(%04X, %v) = %04X, want %04X", sum, b, v, want)
			}
		}
	}
}

// P2.1: Update processes all bytes in order, and leaves the register as it is if there are none.
func TestUpdate(t *testing.T) {
	for _, sum := range sums {
		if v := Update(sum, nil); v != sum {
			t.Errorf("Update(%04X, nil) = %04X", sum, v)
		}
		for _, b := range samples() {
			if v, want := Update(sum, b), register(sum, b); v != want {
				t.Fatalf("Update(%04X, %d bytes) = %04X, want %04X", sum, len(b), v, want)
			}
		}
	}
}

// P2.1: Append adds the two bytes of the checksum, the most significant one first.
func TestAppend(t *testing.T) {
	for _, b := range samples() {
		sum := register(0xFFFF, b)
		if v, want := Append(b), join(b, []byte{byte(sum >> 8), byte(sum & 255)}); !bytes.Equal(v, want) {
			t.Fatalf("Append of %d bytes is wrong", len(b))
		}
	}
	if v := Append([]byte("123456789")); string(v) != "123456789\x29\xB1" {
		t.Errorf("Append = %q", v)
	}
	if v := Append(nil); string(v) != "\xFF\xFF" {
		t.Errorf("Append(nil) = %q", v)
	}
}

// P2.1: Check returns the bytes that Append got.
func TestCheck(t *testing.T) {
	for _, b := range samples() {
		if v, e := Check(Append(b)); !bytes.Equal(v, b) || e != api.OK {
			t.Fatalf("Check of %d bytes: %d bytes, %d", len(b), len(v), e)
		}
	}
	if v, e := Check([]byte("123456789\x29\xB1")); string(v) != "123456789" || e != api.OK {
		t.Errorf("Check = %q, %d", v, e)
	}
	if v, e := Check([]byte{255, 255}); len(v) != 0 || e != api.OK {
		t.Errorf("Check of the checksum of no bytes = %v, %d", v, e)
	}
}

// P2.1: fewer than two bytes are no checksum, whatever they are.
func TestCheckTruncated(t *testing.T) {
	list := [][]byte{nil, {}}
	for c := range 256 {
		list = append(list, []byte{byte(c)})
	}
	for _, b := range list {
		if v, e := Check(b); len(v) != 0 || e != api.ErrTruncated {
			t.Fatalf("Check(%v) = %v, %d", b, v, e)
		}
	}
}

// P2.1: of all pairs of bytes, Check accepts only the checksum of the preceding ones, in its order of bytes.
func TestCheckAcceptsOneSum(t *testing.T) {
	for _, b := range [][]byte{nil, {0}, []byte("123456789"), noise(5, 40)} {
		sum := register(0xFFFF, b)
		for last := range 65536 {
			v, e := Check(join(b, []byte{byte(last >> 8), byte(last)}))
			if uint16(last) == sum {
				if !bytes.Equal(v, b) || e != api.OK {
					t.Fatalf("Check(%v, %04X) = %v, %d", b, last, v, e)
				}
			} else if len(v) != 0 || e != api.ErrChecksum {
				t.Fatalf("Check(%v, %04X) = %v, %d", b, last, v, e)
			}
		}
	}
}

// combined is the value that the chapter specifies for Combine with a permitted length.
func combined(a, b uint16, n int) uint16 {
	return b ^ register(a^0xFFFF, make([]byte, n))
}

// P2.1: Combine is specified for any checksums, also those of no strings of these lengths.
func TestCombine(t *testing.T) {
	lengths := []int{0, 1, 2, 3, 15, 16, 17, 255, 256, 257, 4095, 4096, 32767, 32768, 65534, 65535, 65536}
	for _, n := range lengths {
		for _, a := range sums {
			b := a*31 + uint16(n)
			if v, e := Combine(a, b, n); v != combined(a, b, n) || e != api.OK {
				t.Fatalf("Combine(%04X, %04X, %d) = %04X, %d", a, b, n, v, e)
			}
		}
	}
	for _, a := range sums {
		for _, b := range sums {
			if v, e := Combine(a, b, 5); v != combined(a, b, 5) || e != api.OK {
				t.Fatalf("Combine(%04X, %04X, 5) = %04X, %d", a, b, v, e)
			}
		}
	}
}

// P2.1: a length that is negative or greater than 65536 is an error.
func TestCombineInvalid(t *testing.T) {
	for _, n := range []int{-1, -2, -65536, math.MinInt32, math.MinInt, 65537, 65538, 131072, math.MaxInt32, 1 << 32, math.MaxInt} {
		for _, a := range sums {
			if v, e := Combine(a, 0x29B1, n); v != 0 || e != api.ErrInvalid {
				t.Fatalf("Combine(%04X, 29B1, %d) = %04X, %d", a, n, v, e)
			}
		}
	}
}

// P2.2: Update and Combine agree with Sum wherever a string is divided.
func TestConcatenation(t *testing.T) {
	for _, s := range [][]byte{nil, []byte("123456789"), make([]byte, 33), noise(1, 100), noise(2, 300)} {
		whole := Sum(s)
		for i := range len(s) + 1 {
			first, second := s[:i], s[i:]
			if v := Update(Sum(first), second); v != whole {
				t.Fatalf("Update after %d of %d bytes = %04X, want %04X", i, len(s), v, whole)
			}
			if v, e := Combine(Sum(first), Sum(second), len(second)); v != whole || e != api.OK {
				t.Fatalf("Combine after %d of %d bytes = %04X, %d, want %04X", i, len(s), v, e, whole)
			}
		}
	}
}

// P2.2: Combine agrees with Sum up to its greatest length.
func TestConcatenationLong(t *testing.T) {
	for _, n := range []int{1000, 65535, 65536} {
		first, second := noise(3, 70), noise(4, n)
		whole := Sum(join(first, second))
		if v := Update(Sum(first), second); v != whole {
			t.Errorf("Update with %d bytes = %04X, want %04X", n, v, whole)
		}
		if v, e := Combine(Sum(first), Sum(second), n); v != whole || e != api.OK {
			t.Errorf("Combine with %d bytes = %04X, %d, want %04X", n, v, e, whole)
		}
	}
}

// P2.2: the checksum of a string with its checksum is 0.
func TestSumOfAppend(t *testing.T) {
	for _, b := range samples() {
		if v := Sum(Append(b)); v != 0 {
			t.Fatalf("Sum(Append) of %d bytes = %04X", len(b), v)
		}
	}
}

// burst returns a copy of b whose bits from position on are changed as the 16 bits of pattern say. The
// positions count the bits from the most significant one of the first byte; bits beyond b are left out.
func burst(b []byte, position int, pattern uint16) []byte {
	changed := join(b, nil)
	for i := range 16 {
		place := position + i
		if pattern>>(15-i)&1 == 1 && place >= 0 && place < 8*len(b) {
			changed[place/8] ^= 128 >> (place % 8)
		}
	}
	return changed
}

// checkBurst tests that Check detects a burst. A burst that lies beyond the string changes nothing.
func checkBurst(t *testing.T, sent []byte, position int, pattern uint16) {
	received := burst(sent, position, pattern)
	if bytes.Equal(received, sent) {
		return
	}
	if v, e := Check(received); len(v) != 0 || e != api.ErrChecksum {
		t.Fatalf("burst %04X at bit %d of %d bytes: %v, %d", pattern, position, len(sent), v, e)
	}
}

// P2.2: Check detects every burst in a window of 16 bits of a short string, also one that reaches into the
// checksum or lies in it.
func TestEveryBurst(t *testing.T) {
	for _, b := range [][]byte{nil, {0}, {0xA7, 0x3C}} {
		sent := Append(b)
		for position := -15; position < 8*len(sent); position++ {
			for pattern := 1; pattern <= 0xFFFF; pattern++ {
				checkBurst(t, sent, position, uint16(pattern))
			}
		}
	}
}

// P2.2: Check detects bursts at every position of longer strings.
func TestBurstPositions(t *testing.T) {
	patterns := []uint16{0x8000, 0x8001, 0xC000, 0x8810, 0x8408, 0xFFFF, 0xFF00, 0x80FF, 0xA5A5, 0x9021, 0x1021, 0x0001}
	for _, n := range []int{3, 9, 40, 200, 1000} {
		sent := Append(noise(uint32(n), n))
		for position := range 8 * len(sent) {
			for _, pattern := range patterns {
				checkBurst(t, sent, position, pattern)
			}
		}
	}
}

// P2.2: Sum is affine over three strings of equal length.
func TestAffine(t *testing.T) {
	for _, n := range []int{0, 1, 2, 3, 9, 64, 1000, 65536} {
		for seed := range uint32(5) {
			a, b, c := noise(seed, n), noise(seed+10, n), noise(seed+20, n)
			mixed := make([]byte, n)
			for i := range mixed {
				mixed[i] = a[i] ^ b[i] ^ c[i]
			}
			if v, want := Sum(mixed), Sum(a)^Sum(b)^Sum(c); v != want {
				t.Fatalf("%d bytes: %04X, want %04X", n, v, want)
			}
		}
	}
}

// Rules: results share no memory with arguments, and the arguments are not changed, nor the memory behind them.
func TestMemory(t *testing.T) {
	memory := append([]byte("123456789\x29\xB1"), "behind"...)
	before := string(memory)
	text, sent := memory[:9], memory[:11]
	appended := Append(text)
	checked, e := Check(sent)
	Sum(sent)
	Update(1, sent)
	if e != api.OK || string(memory) != before {
		t.Fatalf("the argument was changed: %q, %d", memory, e)
	}
	for i := range memory {
		memory[i] = 'x'
	}
	if string(appended) != "123456789\x29\xB1" || string(checked) != "123456789" {
		t.Errorf("the results %q and %q share memory with the argument", appended, checked)
	}
	// A caller may extend a result: this must not reach the argument either.
	_ = append(checked, "yyyy"...)
	_ = append(appended, "yyyy"...)
	if string(memory) != strings.Repeat("x", len(memory)) {
		t.Errorf("the memory behind a result is the argument's: %q", memory)
	}
}
