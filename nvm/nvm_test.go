package nvm

import (
	"bytes"
	"math"
	"math/big"
	"slices"
	"testing"

	"trickle/api"
)

// generator makes numbers that follow no simple rule. Its value is never 0.
type generator uint64

// below returns a number from 0 to n-1.
func (g *generator) below(n int) int {
	*g ^= *g << 13
	*g ^= *g >> 7
	*g ^= *g << 17
	return int((uint64(*g) >> 20) % uint64(n))
}

// pick returns one of some values.
func pick[T any](g *generator, l []T) T { return l[g.below(len(l))] }

// bytes returns some bytes, of which none is 0.
func (g *generator) bytes(n int) []byte {
	b := make([]byte, n)
	for i := range b {
		b[i] = byte(1 + g.below(255))
	}
	return b
}

// plain is a memory as the chapter defines it. It keeps the bytes that were written, by their addresses.
type plain struct {
	size   int
	cells  map[int]byte
	off    bool
	armed  bool
	most   int // the successful writes after Arm that were allowed
	since  int // those that have happened
	meter  func() bool
	writes int64
}

func newPlain(size int) *plain { return &plain{size: size, cells: map[int]byte{}} }

// valid is the definition, with numbers of any size.
func (p *plain) valid(addr, n int) bool {
	end := new(big.Int).Add(big.NewInt(int64(addr)), big.NewInt(int64(n)))
	return addr >= 0 && n >= 0 && end.Cmp(big.NewInt(int64(p.size))) <= 0
}

func (p *plain) write(addr int, b byte) bool {
	if !p.valid(addr, 1) || p.off {
		return false
	}
	if p.armed && p.since == p.most || p.meter != nil && !p.meter() {
		p.off = true
		return false
	}
	p.cells[addr] = b
	p.since++
	p.writes++
	return true
}

func (p *plain) writeBytes(addr int, b []byte) bool {
	if !p.valid(addr, len(b)) {
		return false
	}
	for i := range b {
		if !p.write(addr+i, b[i]) {
			return false
		}
	}
	return !p.off
}

func (p *plain) writeWord(addr int, v int16) bool {
	n := (int(v) + 65536) % 65536
	return p.writeBytes(addr, []byte{byte(n % 256), byte(n / 256)})
}

func (p *plain) readBytes(addr, n int) []byte {
	if !p.valid(addr, n) {
		return nil
	}
	b := []byte{}
	for i := range n {
		if p.off {
			b = append(b, 0)
		} else {
			b = append(b, p.cells[addr+i])
		}
	}
	return b
}

func (p *plain) read(addr int) byte {
	if b := p.readBytes(addr, 1); b != nil {
		return b[0]
	}
	return 0
}

func (p *plain) readWord(addr int) int16 {
	b := p.readBytes(addr, 2)
	if b == nil {
		return 0
	}
	n := int(b[0]) + 256*int(b[1])
	if n >= 32768 {
		n -= 65536
	}
	return int16(n)
}

func (p *plain) arm(n int) { p.armed, p.most, p.since = n >= 0, n, 0 }

func (p *plain) powerOn() { p.off, p.armed = false, false }

func (p *plain) image() []byte {
	b := make([]byte, p.size)
	for addr, x := range p.cells {
		b[addr] = x
	}
	return b
}

func (p *plain) load(b []byte) api.Errno {
	if len(b) != p.size {
		return api.ErrInvalid
	}
	for addr, x := range b {
		p.cells[addr] = x
	}
	return api.OK
}

// budget is a meter that allows a number of writes and then one no more. It counts how often it was called.
type budget struct{ allowed, calls int }

func (b *budget) spend() bool {
	b.calls++
	return b.calls <= b.allowed
}

// memory returns a new memory.
func memory(t *testing.T, size int) *Memory {
	t.Helper()
	m, e := New(size)
	if m == nil || e != api.OK {
		t.Fatalf("New(%d) = %v, %d", size, m, e)
	}
	return m
}

// check compares the state of a memory.
func check(t *testing.T, m *Memory, image []byte, off bool, writes int64, text string) {
	t.Helper()
	if got := m.Image(); !bytes.Equal(got, image) {
		t.Fatalf("%s: Image() = %v, want %v", text, got, image)
	}
	if m.Off() != off {
		t.Fatalf("%s: Off() = %v", text, m.Off())
	}
	if m.Writes() != writes {
		t.Fatalf("%s: Writes() = %d, want %d", text, m.Writes(), writes)
	}
}

// checkPlain compares all that a memory tells without being changed with a plain one.
func checkPlain(t *testing.T, m *Memory, p *plain, text string) {
	t.Helper()
	check(t, m, p.image(), p.off, p.writes, text)
	for addr := -2; addr <= p.size+1; addr++ {
		checkReads(t, m, p, addr, 3)
	}
}

// checkReads compares what is read at one address.
func checkReads(t *testing.T, m *Memory, p *plain, addr, n int) {
	t.Helper()
	if got, want := m.Read(addr), p.read(addr); got != want {
		t.Fatalf("Read(%d) = %d, want %d", addr, got, want)
	}
	if got, want := m.ReadWord(addr), p.readWord(addr); got != want {
		t.Fatalf("ReadWord(%d) = %d, want %d", addr, got, want)
	}
	got, want := m.ReadBytes(addr, n), p.readBytes(addr, n)
	if !bytes.Equal(got, want) || want == nil && got != nil {
		t.Fatalf("ReadBytes(%d, %d) = %v, want %v", addr, n, got, want)
	}
}

// integers returns numbers at and around the ends of a range of some size, and of all integers.
func integers(size int) []int {
	return []int{
		math.MinInt, math.MinInt + 1, -1 << 32, -1<<16 - 1, -1 << 16, -size - 1, -size, -2, -1, 0, 1, 2, size - 2, size - 1,
		size, size + 1, size + 2, 1<<16 - 1, 1 << 16, 1<<16 + 1, 1 << 32, math.MaxInt - size, math.MaxInt - 1, math.MaxInt,
	}
}

// P7.1: the chapter's example.
func TestExample(t *testing.T) {
	m := memory(t, 4)
	m.Arm(1)
	if m.WriteWord(0, 0x0201) {
		t.Error("the word was written")
	}
	check(t, m, []byte{1, 0, 0, 0}, true, 1, "the example")
	m.PowerOn()
	if m.ReadWord(0) != 1 || m.Writes() != 1 || m.Off() {
		t.Errorf("ReadWord(0) = %d, Writes() = %d, Off() = %v", m.ReadWord(0), m.Writes(), m.Off())
	}
}

// P7.1: memories of every kind of size are zero bytes, with power, not armed and without a meter.
func TestNew(t *testing.T) {
	for _, size := range []int{1, 2, 3, 4, 255, 256, 257, api.NVMSize, 65535, 65536} {
		m := memory(t, size)
		check(t, m, make([]byte, size), false, 0, "a new memory")
		full := bytes.Repeat([]byte{0xA5}, size)
		if !m.WriteBytes(0, full) {
			t.Errorf("size %d: the memory was not written", size)
		}
		check(t, m, full, false, int64(size), "a memory that was written")
	}
	for _, size := range []int{math.MinInt, math.MinInt + 1, -65536, -2, -1, 0, 65537, 65538, 1 << 17, 1 << 32, 1<<32 + 1, math.MaxInt - 1, math.MaxInt} {
		if m, e := New(size); m != nil || e != api.ErrInvalid {
			t.Errorf("New(%d) = %v, %d", size, m, e)
		}
	}
}

// P7.1: every address of the greatest memory has a byte of its own.
func TestGreatest(t *testing.T) {
	const size = 65536
	m, p, g := memory(t, size), newPlain(size), generator(1)
	for range 3 {
		b := g.bytes(size)
		for i := range b {
			// 40503 has no factor in common with the size, so all addresses are written, in a mixed order.
			addr := i * 40503 % size
			if !m.Write(addr, b[i]) || !p.write(addr, b[i]) || m.Read(addr) != b[i] {
				t.Fatalf("Write(%d, %d), Read(%d) = %d", addr, b[i], addr, m.Read(addr))
			}
		}
		checkPlain(t, m, p, "the greatest memory")
	}
	if !bytes.Equal(m.ReadBytes(0, size), p.image()) || m.ReadBytes(1, size) != nil || m.ReadBytes(0, size+1) != nil {
		t.Error("ReadBytes of all bytes, or of more")
	}
	if !bytes.Equal(m.ReadBytes(65530, 6), p.image()[65530:]) {
		t.Error("ReadBytes of the last bytes")
	}
}

// P7.1: every value at every address, and the bytes beside it.
func TestWrite(t *testing.T) {
	const size = 5
	m, p := memory(t, size), newPlain(size)
	for addr := range size {
		for b := range 256 {
			if !m.Write(addr, byte(b)) || !p.write(addr, byte(b)) {
				t.Fatalf("Write(%d, %d) failed", addr, b)
			}
			checkPlain(t, m, p, "a byte")
		}
		m.Write(addr, byte(0x81+addr))
		p.write(addr, byte(0x81+addr))
	}
	check(t, m, []byte{0x81, 0x82, 0x83, 0x84, 0x85}, false, size*257, "all bytes")
}

// P7.1: the low-order byte of a word is the first; all words are read as they were written, at even and at odd
// addresses.
func TestWords(t *testing.T) {
	m := memory(t, 7)
	for i, x := range []struct {
		v         int16
		low, high byte
	}{
		{0x0201, 1, 2}, {1, 1, 0}, {0x100, 0, 1}, {255, 255, 0}, {256, 0, 1}, {-1, 255, 255}, {-2, 254, 255}, {-256, 0, 255},
		{-257, 255, 254}, {-128, 128, 255}, {128, 128, 0}, {math.MaxInt16, 255, 127}, {math.MinInt16, 0, 128}, {-32767, 1, 128}, {0, 0, 0},
	} {
		addr := i % 6
		if !m.WriteWord(addr, x.v) || m.Read(addr) != x.low || m.Read(addr+1) != x.high || m.ReadWord(addr) != x.v {
			t.Errorf("WriteWord(%d, %d): bytes %d and %d, word %d", addr, x.v, m.Read(addr), m.Read(addr+1), m.ReadWord(addr))
		}
	}
	p := newPlain(7)
	p.load(m.Image())
	for v := math.MinInt16; v <= math.MaxInt16; v++ {
		addr := v & 3
		if !m.WriteWord(addr, int16(v)) || !p.writeWord(addr, int16(v)) || m.ReadWord(addr) != int16(v) {
			t.Fatalf("WriteWord(%d, %d), ReadWord(%d) = %d", addr, v, addr, m.ReadWord(addr))
		}
		if !bytes.Equal(m.Image(), p.image()) {
			t.Fatalf("WriteWord(%d, %d): bytes %v, want %v", addr, v, m.Image(), p.image())
		}
	}
}

// P7.1: a word has no room at the last address, nor before the first; at both ends of the memory it has.
func TestWordAtEnds(t *testing.T) {
	for size := 1; size <= 4; size++ {
		for _, addr := range integers(size) {
			m, p := memory(t, size), newPlain(size)
			want := addr >= 0 && addr <= size-2
			if p.valid(addr, 2) != want {
				t.Fatalf("size %d, address %d: the plain memory is wrong", size, addr)
			}
			p.writeWord(addr, -515)
			if got := m.WriteWord(addr, -515); got != want {
				t.Fatalf("size %d: WriteWord(%d) = %v, want %v", size, addr, got, want)
			}
			checkPlain(t, m, p, "a word")
			checkReads(t, m, p, addr, 2)
		}
	}
}

// P7.1: every kind of address with every kind of length, also where their sum overflows.
func TestRanges(t *testing.T) {
	for _, size := range []int{1, 2, 5, 65536} {
		m, p := memory(t, size), newPlain(size)
		g := generator(2)
		b := g.bytes(size)
		m.Load(b)
		p.load(b)
		for _, addr := range integers(size) {
			for _, n := range integers(size) {
				checkReads(t, m, p, addr, n)
				if n < 0 || n > 1<<16+1 {
					continue
				}
				if got, want := m.WriteBytes(addr, b[:min(n, size)]), p.valid(addr, min(n, size)); got != want {
					t.Fatalf("size %d: WriteBytes(%d, %d bytes) = %v", size, addr, min(n, size), got)
				}
				p.writeBytes(addr, b[:min(n, size)])
				if n > size && m.WriteBytes(addr, make([]byte, n)) {
					t.Fatalf("size %d: WriteBytes(%d, %d bytes) succeeded", size, addr, n)
				}
			}
		}
		check(t, m, p.image(), false, p.writes, "ranges")
	}
}

// P7.1: WriteBytes at every address with every length, and nothing beside the range is written.
func TestWriteBytes(t *testing.T) {
	const size = 8
	g := generator(3)
	for addr := -3; addr <= size+3; addr++ {
		for n := range size + 3 {
			m, p := memory(t, size), newPlain(size)
			old, b := g.bytes(size), g.bytes(n)
			m.Load(old)
			p.load(old)
			if got, want := m.WriteBytes(addr, b), p.writeBytes(addr, b); got != want {
				t.Fatalf("WriteBytes(%d, %d bytes) = %v, want %v", addr, n, got, want)
			}
			checkPlain(t, m, p, "a range")
		}
	}
}

// P7.1: what is not valid does nothing else: the power does not fail, the meter is not called, and no write is
// used up.
func TestInvalidDoesNothing(t *testing.T) {
	const size = 6
	for _, addr := range integers(size) {
		for n := range 10 {
			if newPlain(size).valid(addr, n) {
				continue
			}
			for _, b := range [][]byte{make([]byte, n), bytes.Repeat([]byte{7}, n)} {
				m := memory(t, size)
				meter := &budget{allowed: 2}
				m.Load([]byte{1, 2, 3, 4, 5, 6})
				m.Meter(meter.spend)
				m.Arm(1)
				for range 3 {
					if m.WriteBytes(addr, b) || n == 1 && m.Write(addr, 9) || n == 2 && m.WriteWord(addr, 9) {
						t.Fatalf("%d bytes at %d were written", n, addr)
					}
				}
				check(t, m, []byte{1, 2, 3, 4, 5, 6}, false, 0, "an invalid range")
				if meter.calls != 0 || !m.Write(0, 8) || meter.calls != 1 || m.Write(1, 8) || meter.calls != 1 {
					t.Fatalf("%d bytes at %d: %d calls of the meter", n, addr, meter.calls)
				}
				check(t, m, []byte{8, 2, 3, 4, 5, 6}, true, 1, "a write after an invalid range")
			}
		}
	}
	m := memory(t, size)
	m.Arm(0)
	if m.Write(size, 1) || m.Write(-1, 1) || m.WriteWord(size-1, 1) || m.WriteBytes(1, make([]byte, size)) || m.Off() {
		t.Error("the power failed at a write that is not valid")
	}
}

// P7.1: an empty write tells whether the power is on, also where the next write of a byte would fail.
func TestEmptyWrite(t *testing.T) {
	const size = 3
	for _, b := range [][]byte{nil, {}, make([]byte, 4)[2:2]} {
		for _, addr := range integers(size) {
			m := memory(t, size)
			meter := &budget{}
			m.Meter(meter.spend)
			m.Arm(0)
			want := addr >= 0 && addr <= size
			if got := m.WriteBytes(addr, b); got != want {
				t.Errorf("WriteBytes(%d, nothing) = %v", addr, got)
			}
			check(t, m, make([]byte, size), false, 0, "an empty write")
			m.PowerOff()
			if m.WriteBytes(addr, b) {
				t.Errorf("WriteBytes(%d, nothing) without power succeeded", addr)
			}
			m.PowerOn()
			if got := m.WriteBytes(addr, b); got != want || meter.calls != 0 {
				t.Errorf("WriteBytes(%d, nothing) with power again = %v, %d calls of the meter", addr, got, meter.calls)
			}
		}
	}
}

// P7.1: an empty range is read as no bytes, where it is valid.
func TestEmptyRead(t *testing.T) {
	m := memory(t, 3)
	for range 2 {
		for _, addr := range integers(3) {
			b := m.ReadBytes(addr, 0)
			if len(b) != 0 || b == nil && addr >= 0 && addr <= 3 || b != nil && (addr < 0 || addr > 3) {
				t.Errorf("ReadBytes(%d, 0) = %v, nil: %v", addr, b, b == nil)
			}
		}
		m.PowerOff()
	}
}

// writeAll writes a byte to each of the first n addresses, and returns which writes were successful.
func writeAll(m *Memory, n int) []bool {
	var l []bool
	for addr := range n {
		l = append(l, m.Write(addr, byte(addr+1)))
	}
	return l
}

// prefix returns n values, of which the first k are true.
func prefix(k, n int) []bool {
	l := make([]bool, n)
	for i := range min(k, n) {
		l[i] = true
	}
	return l
}

// P7.1: the power fails at the write that follows n successful ones: not before it, and not if there is none.
func TestArm(t *testing.T) {
	const size = 6
	for _, n := range []int{0, 1, 2, 3, 4, 5, 6, 7, 100, math.MaxInt - 1, math.MaxInt} {
		m := memory(t, size)
		m.Arm(n)
		check(t, m, make([]byte, size), false, 0, "an armed memory")
		if got := writeAll(m, size); !slices.Equal(got, prefix(n, size)) {
			t.Errorf("Arm(%d): writes %v", n, got)
		}
		image := append([]byte{1, 2, 3, 4, 5, 6}[:min(n, size)], make([]byte, size-min(n, size))...)
		check(t, m, image, n < size, int64(min(n, size)), "an armed memory that was written")
		if got := m.Write(0, 77); got != (n > size) {
			t.Errorf("Arm(%d): a further write: %v", n, got)
		}
		if m.Off() != (n <= size) {
			t.Errorf("Arm(%d): Off() = %v after a further write", n, m.Off())
		}
	}
	for _, n := range []int{math.MinInt, math.MinInt + 1, -100, -2, -1} {
		m := memory(t, size)
		m.Arm(n)
		for range 100 {
			if got := writeAll(m, size); !slices.Equal(got, prefix(size, size)) {
				t.Errorf("Arm(%d): writes %v", n, got)
			}
		}
		check(t, m, []byte{1, 2, 3, 4, 5, 6}, false, 600, "a memory that is not armed")
	}
}

// P7.1: each call of Arm replaces the one before, and the writes before it do not count.
func TestArmAgain(t *testing.T) {
	const size = 20
	for _, first := range []int{-3, 0, 1, 2, 3, 4, 9} {
		for before := range 5 {
			for _, second := range []int{-5, -1, 0, 1, 2, 5, 9} {
				if 0 <= first && first < before {
					continue
				}
				m := memory(t, size)
				writeAll(m, 2)
				m.Arm(first)
				if got := writeAll(m, before); !slices.Equal(got, prefix(before, before)) {
					t.Fatalf("Arm(%d): writes %v", first, got)
				}
				m.Arm(second)
				k := second
				if second < 0 {
					k = size
				}
				if got := writeAll(m, size); !slices.Equal(got, prefix(k, size)) {
					t.Fatalf("Arm(%d), %d writes, Arm(%d): writes %v", first, before, second, got)
				}
				if m.Off() != (second >= 0) || m.Writes() != int64(2+before+k) {
					t.Fatalf("Arm(%d), %d writes, Arm(%d): Off() = %v, Writes() = %d", first, before, second, m.Off(), m.Writes())
				}
			}
		}
	}
}

// P7.1: PowerOn disarms, whether the power was on or off and whether it failed or was turned off; PowerOff,
// failed writes and Load do not.
func TestArmAndPower(t *testing.T) {
	const size = 4
	for name, operate := range map[string]func(m *Memory){
		"PowerOn":                    func(m *Memory) { m.PowerOn() },
		"PowerOff, PowerOn":          func(m *Memory) { m.PowerOff(); m.PowerOn() },
		"failed, PowerOn":            func(m *Memory) { writeAll(m, 2); m.PowerOn() },
		"failed, PowerOff, PowerOn":  func(m *Memory) { writeAll(m, 3); m.PowerOff(); m.PowerOn() },
		"PowerOff, Arm, PowerOn":     func(m *Memory) { m.PowerOff(); m.Arm(2); m.PowerOn() },
		"failed, Arm, PowerOn":       func(m *Memory) { writeAll(m, 2); m.Arm(0); m.PowerOn() },
		"PowerOn, PowerOn":           func(m *Memory) { m.PowerOn(); m.PowerOn() },
		"Arm, PowerOn":               func(m *Memory) { m.Arm(0); m.PowerOn() },
		"disarmed, failed not, Load": func(m *Memory) { m.Arm(-1); writeAll(m, 3); m.Load(make([]byte, size)) },
	} {
		m := memory(t, size)
		m.Arm(1)
		operate(m)
		if m.Off() {
			t.Errorf("%s: the power is off", name)
		}
		for range 9 {
			if got := writeAll(m, size); !slices.Equal(got, prefix(size, size)) {
				t.Errorf("%s: writes %v", name, got)
			}
		}
	}
	m := memory(t, size)
	m.Arm(1)
	m.Load([]byte{9, 9, 9, 9})
	if m.Off() || m.Write(4, 1) || !m.Write(0, 1) || m.Write(1, 1) || !m.Off() {
		t.Error("Load or an invalid write changed how the memory is armed")
	}
	check(t, m, []byte{1, 9, 9, 9}, true, 1, "Load of an armed memory")
	m.PowerOn()
	m.Arm(2)
	if got := writeAll(m, size); !slices.Equal(got, prefix(2, size)) {
		t.Errorf("armed again after the power failed: writes %v", got)
	}
}

// P7.1: a meter that returns false at a given call lets the power fail at that write, and is called once for
// each write of a byte until then.
func TestMeter(t *testing.T) {
	const size = 6
	for allowed := range size + 2 {
		m := memory(t, size)
		meter := &budget{allowed: allowed}
		m.Meter(meter.spend)
		if meter.calls != 0 {
			t.Fatal("Meter called the meter")
		}
		for addr := range size {
			if got := m.Write(addr, byte(addr+1)); got != (addr < allowed) || m.Off() != (addr >= allowed) {
				t.Errorf("%d writes allowed: write %d: %v, Off() = %v", allowed, addr, got, m.Off())
			}
			if want := min(addr+1, allowed+1); meter.calls != want {
				t.Errorf("%d writes allowed: %d calls after write %d, want %d", allowed, meter.calls, addr, want)
			}
		}
		k := min(allowed, size)
		image := append([]byte{1, 2, 3, 4, 5, 6}[:k], make([]byte, size-k)...)
		check(t, m, image, allowed < size, int64(k), "a memory with a meter")
	}
}

// P7.1: only writes of bytes call the meter, each of them once.
func TestMeterCalls(t *testing.T) {
	m := memory(t, 8)
	meter := &budget{allowed: 1000}
	m.Meter(meter.spend)
	for _, x := range []struct {
		name    string
		operate func()
		calls   int
	}{
		{"Write", func() { m.Write(7, 1) }, 1},
		{"WriteWord", func() { m.WriteWord(6, 1) }, 2},
		{"WriteBytes", func() { m.WriteBytes(1, make([]byte, 5)) }, 5},
		{"WriteBytes of nothing", func() { m.WriteBytes(8, nil) }, 0},
		{"the same bytes again", func() { m.WriteBytes(1, make([]byte, 5)) }, 5},
		{"invalid writes", func() { m.Write(8, 1); m.WriteWord(7, 1); m.WriteBytes(-1, make([]byte, 3)) }, 0},
		{"reads", func() {
			m.Read(0)
			m.ReadWord(1)
			m.ReadBytes(2, 6)
			m.Image()
			m.Off()
			m.Writes()
		}, 0},
		{"Load", func() { m.Load(make([]byte, 8)) }, 0},
		{"Arm", func() { m.Arm(2); m.Arm(-1) }, 0},
		{"the power", func() { m.PowerOff(); m.PowerOff(); m.PowerOn(); m.PowerOn() }, 0},
		{"writes without power", func() { m.PowerOff(); m.Write(1, 1); m.WriteWord(1, 1); m.WriteBytes(0, make([]byte, 8)) }, 0},
		{"reads without power", func() { m.Read(0); m.ReadWord(1); m.ReadBytes(2, 6) }, 0},
	} {
		meter.calls = 0
		x.operate()
		if meter.calls != x.calls {
			t.Errorf("%s: %d calls of the meter, want %d", x.name, meter.calls, x.calls)
		}
	}
}

// P7.1: a meter is replaced, or removed with nil; it remains when the power goes off and on.
func TestMeterReplaced(t *testing.T) {
	m := memory(t, 4)
	first, second := &budget{allowed: 3}, &budget{allowed: 1}
	m.Meter(first.spend)
	if !m.WriteWord(0, 257) {
		t.Error("the first meter failed")
	}
	m.PowerOff()
	m.PowerOn()
	if !m.Write(2, 1) || first.calls != 3 || m.Write(3, 1) || first.calls != 4 || !m.Off() {
		t.Errorf("after the power was off, the first meter was called %d times", first.calls)
	}
	m.PowerOn()
	if m.Write(3, 1) || first.calls != 5 || !m.Off() {
		t.Errorf("after the power failed, the first meter was called %d times", first.calls)
	}
	m.Meter(second.spend)
	if !m.Off() {
		t.Error("Meter turned the power on")
	}
	m.PowerOn()
	if !m.Write(3, 2) || m.Write(3, 3) || first.calls != 5 || second.calls != 2 {
		t.Errorf("the meters were called %d and %d times", first.calls, second.calls)
	}
	m.Meter(nil)
	m.PowerOn()
	for range 5 {
		if got := writeAll(m, 4); !slices.Equal(got, prefix(4, 4)) {
			t.Errorf("without a meter: writes %v", got)
		}
	}
	if first.calls != 5 || second.calls != 2 {
		t.Errorf("the meters were called %d and %d times, after they were removed", first.calls, second.calls)
	}
	m.Meter(nil)
	check(t, m, []byte{1, 2, 3, 4}, false, 24, "a memory without a meter")
}

// P7.1: an armed memory fails before it calls the meter, and a meter that fails first leaves no write behind.
func TestMeterAndArm(t *testing.T) {
	const size = 8
	for armed := range 6 {
		for allowed := range 6 {
			m := memory(t, size)
			meter := &budget{allowed: allowed}
			if allowed%2 == 0 {
				m.Arm(armed)
				m.Meter(meter.spend)
			} else {
				m.Meter(meter.spend)
				m.Arm(armed)
			}
			k := min(armed, allowed)
			if got := writeAll(m, size); !slices.Equal(got, prefix(k, size)) || !m.Off() || m.Writes() != int64(k) {
				t.Errorf("Arm(%d), %d writes allowed: writes %v", armed, allowed, got)
			}
			if want := min(armed, allowed+1); meter.calls != want {
				t.Errorf("Arm(%d), %d writes allowed: %d calls of the meter, want %d", armed, allowed, meter.calls, want)
			}
			meter.allowed = 100
			m.PowerOn()
			if got := writeAll(m, size); !slices.Equal(got, prefix(size, size)) {
				t.Errorf("Arm(%d), %d writes allowed, PowerOn: writes %v", armed, allowed, got)
			}
		}
	}
}

// P1, P7.1: a meter that panics has not returned true; the write fails, and the panic goes no further.
func TestMeterPanics(t *testing.T) {
	for _, value := range []any{"no", 0, error(nil)} {
		m := memory(t, 4)
		calls := 0
		m.Meter(func() bool {
			if calls++; calls == 3 {
				panic(value)
			}
			return true
		})
		if m.WriteBytes(0, []byte{1, 2, 3, 4}) {
			t.Error("WriteBytes succeeded")
		}
		check(t, m, []byte{1, 2, 0, 0}, true, 2, "a meter that panics")
		m.PowerOn()
		if !m.WriteBytes(0, []byte{5, 6, 7, 8}) {
			t.Error("WriteBytes failed")
		}
		check(t, m, []byte{5, 6, 7, 8}, false, 6, "a meter that panics no more")
	}
}

// P7.1, P7.2: WriteBytes and WriteWord that fail at each of their bytes, for each of the reasons.
func TestFailsAtEachByte(t *testing.T) {
	const size, addr = 9, 2
	b := []byte{11, 12, 13, 14, 15}
	for k := range len(b) + 1 {
		for reason := range 2 {
			for n := range len(b) + 1 {
				m := memory(t, size)
				m.Load(bytes.Repeat([]byte{7}, size))
				if reason == 0 {
					m.Arm(k)
				} else {
					m.Meter((&budget{allowed: k}).spend)
				}
				if got := m.WriteBytes(addr, b[:n]); got != (n <= k) {
					t.Errorf("WriteBytes of %d bytes that may fail after %d: %v", n, k, got)
				}
				image := bytes.Repeat([]byte{7}, size)
				copy(image[addr:], b[:min(n, k)])
				check(t, m, image, n > k, int64(min(n, k)), "WriteBytes")
			}
			m := memory(t, 2)
			if reason == 0 {
				m.Arm(k)
			} else {
				m.Meter((&budget{allowed: k}).spend)
			}
			if got := m.WriteWord(0, -2); got != (k >= 2) {
				t.Errorf("WriteWord that may fail after %d bytes: %v", k, got)
			}
			image := append([]byte{254, 255}[:min(k, 2)], make([]byte, 2-min(k, 2))...)
			check(t, m, image, k < 2, int64(min(k, 2)), "WriteWord")
		}
	}
}

// P7.1: with the power off, nothing is written and zeros are read; the bytes are there again when it is on.
func TestPower(t *testing.T) {
	m, p := memory(t, 5), newPlain(5)
	m.WriteBytes(0, []byte{1, 2, 3, 4, 5})
	p.writeBytes(0, []byte{1, 2, 3, 4, 5})
	for range 2 {
		m.PowerOff()
		p.off = true
		checkPlain(t, m, p, "no power")
		if m.Read(0) != 0 || m.ReadWord(0) != 0 || !bytes.Equal(m.ReadBytes(1, 4), make([]byte, 4)) || m.ReadBytes(2, 4) != nil || m.ReadBytes(0, -1) != nil {
			t.Error("reads without power")
		}
		if m.Write(0, 9) || m.WriteWord(0, 9) || m.WriteBytes(0, []byte{9}) || m.WriteBytes(0, nil) || m.Write(5, 9) || !m.Off() {
			t.Error("writes without power")
		}
		checkPlain(t, m, p, "no power, after writes")
	}
	for range 2 {
		m.PowerOn()
		p.powerOn()
		checkPlain(t, m, p, "power again")
	}
	if !m.Write(4, 6) || m.Writes() != 6 || m.ReadWord(3) != 6*256+4 {
		t.Error("a write with power again")
	}
}

// P7.1: Image and Load in every state; neither has anything to do with the power, the meter or Writes.
func TestImageAndLoad(t *testing.T) {
	m := memory(t, 4)
	meter := &budget{allowed: 1}
	m.Meter(meter.spend)
	m.Arm(0)
	if e := m.Load([]byte{1, 2, 3, 4}); e != api.OK {
		t.Errorf("Load of an armed memory: %d", e)
	}
	check(t, m, []byte{1, 2, 3, 4}, false, 0, "loaded")
	m.PowerOff()
	if e := m.Load([]byte{5, 6, 7, 8}); e != api.OK {
		t.Errorf("Load without power: %d", e)
	}
	check(t, m, []byte{5, 6, 7, 8}, true, 0, "loaded without power")
	for _, n := range []int{0, 1, 2, 3, 5, 6, 8, 65536} {
		if e := m.Load(make([]byte, n)); e != api.ErrInvalid {
			t.Errorf("Load of %d bytes without power: %d", n, e)
		}
	}
	if e := m.Load(nil); e != api.ErrInvalid {
		t.Errorf("Load(nil): %d", e)
	}
	check(t, m, []byte{5, 6, 7, 8}, true, 0, "not loaded")
	m.PowerOn()
	for _, n := range []int{0, 1, 2, 3, 5, 6, 8, 65536} {
		if e := m.Load(bytes.Repeat([]byte{9}, n)); e != api.ErrInvalid {
			t.Errorf("Load of %d bytes: %d", n, e)
		}
	}
	check(t, m, []byte{5, 6, 7, 8}, false, 0, "not loaded, with power")
	if meter.calls != 0 || !m.Write(1, 1) || m.Write(1, 2) || meter.calls != 2 {
		t.Errorf("%d calls of the meter", meter.calls)
	}
	check(t, m, []byte{5, 1, 7, 8}, true, 1, "written after Load")
	if m.Load([]byte{0, 0, 0, 0}) != api.OK || !m.Off() || m.Writes() != 1 {
		t.Error("Load after the power failed")
	}
	one := memory(t, 1)
	if one.Load([]byte{3}) != api.OK || one.Read(0) != 3 || one.Load(nil) != api.ErrInvalid || one.Load([]byte{1, 2}) != api.ErrInvalid {
		t.Error("Load of one byte")
	}
}

// P7.1: a memory shares nothing with what was passed to it, with what it returned, or with another memory.
func TestNothingShared(t *testing.T) {
	m, other := memory(t, 4), memory(t, 4)
	written, loaded := []byte{1, 2, 3, 4}, []byte{5, 6, 7, 8}
	m.WriteBytes(0, written)
	clear(written)
	check(t, m, []byte{1, 2, 3, 4}, false, 4, "what was written was changed")
	m.Load(loaded)
	clear(loaded)
	check(t, m, []byte{5, 6, 7, 8}, false, 4, "what was loaded was changed")
	image, all, part := m.Image(), m.ReadBytes(0, 4), m.ReadBytes(1, 2)
	clear(image)
	clear(all)
	_ = append(part, 99)
	clear(part)
	check(t, m, []byte{5, 6, 7, 8}, false, 4, "results were changed")
	image, all, part = m.Image(), m.ReadBytes(0, 4), m.ReadBytes(1, 2)
	m.WriteBytes(0, []byte{9, 9, 9})
	m.Load([]byte{8, 8, 8, 8})
	m.PowerOff()
	if !bytes.Equal(image, []byte{5, 6, 7, 8}) || !bytes.Equal(all, image) || !bytes.Equal(part, []byte{6, 7}) {
		t.Errorf("results became %v, %v and %v", image, all, part)
	}
	check(t, other, make([]byte, 4), false, 0, "another memory")

	// Functions do not change their arguments.
	written, loaded = []byte{1, 2, 3, 4}, []byte{5, 6, 7, 8}
	m.PowerOn()
	m.Load(loaded)
	m.Arm(2)
	m.WriteBytes(0, written)
	m.Load(loaded)
	if !bytes.Equal(written, []byte{1, 2, 3, 4}) || !bytes.Equal(loaded, []byte{5, 6, 7, 8}) {
		t.Errorf("arguments became %v and %v", written, loaded)
	}
}

// P1: the zero Memory has no bytes; nothing that is done to it panics.
func TestZeroMemory(t *testing.T) {
	m, p := &Memory{}, newPlain(0)
	for range 2 {
		for _, addr := range integers(0) {
			for _, n := range integers(0) {
				checkReads(t, m, p, addr, n)
			}
			if m.Write(addr, 1) || m.WriteWord(addr, 1) || m.WriteBytes(addr, []byte{1}) {
				t.Errorf("a write at %d", addr)
			}
		}
		check(t, m, nil, p.off, 0, "the zero Memory")
		m.PowerOff()
		p.off = true
	}
	if m.Load([]byte{1}) != api.ErrInvalid {
		t.Error("Load of a byte")
	}
}

// P7.1: the number of writes after many of them, successful or not.
func TestWrites(t *testing.T) {
	m, g := memory(t, 300), generator(4)
	var want int64
	for range 2000 {
		switch g.below(5) {
		case 0:
			m.PowerOff()
			m.WriteBytes(0, make([]byte, 50))
			m.PowerOn()
		case 1:
			n := g.below(300)
			m.Arm(n)
			if m.WriteBytes(0, make([]byte, 300)) {
				t.Fatal("a write did not fail")
			}
			want += int64(n)
			m.PowerOn()
		case 2:
			m.WriteBytes(1+g.below(300), make([]byte, 300))
			m.Write(300+g.below(9), 1)
			m.Load(make([]byte, 300-g.below(2)))
		default:
			n := g.below(300)
			m.WriteBytes(300-n, make([]byte, n))
			want += int64(n)
		}
		if got := m.Writes(); got != want {
			t.Fatalf("Writes() = %d, want %d", got, want)
		}
	}
}

// address returns an address, or the size, in most calls, and now and then an integer that is none.
func (g *generator) address(size int) int {
	if g.below(8) == 0 {
		return pick(g, integers(size))
	}
	return g.below(size + 1)
}

// operate performs an operation, chosen by the generator, on a memory and on a plain one.
func operate(t *testing.T, g *generator, m *Memory, p *plain) {
	t.Helper()
	addr := g.address(p.size)
	switch g.below(14) {
	case 0, 1, 2:
		b := byte(g.below(256))
		if got, want := m.Write(addr, b), p.write(addr, b); got != want {
			t.Fatalf("Write(%d, %d) = %v, want %v", addr, b, got, want)
		}
	case 3, 4:
		v := int16(g.below(65536))
		if got, want := m.WriteWord(addr, v), p.writeWord(addr, v); got != want {
			t.Fatalf("WriteWord(%d, %d) = %v, want %v", addr, v, got, want)
		}
	case 5, 6:
		b := g.bytes(g.below(p.size + 2))
		if got, want := m.WriteBytes(addr, b), p.writeBytes(addr, b); got != want {
			t.Fatalf("WriteBytes(%d, %v) = %v, want %v", addr, b, got, want)
		}
	case 7:
		n := pick(g, []int{math.MinInt, -2, -1, 0, 1, 2, 3, 5, 9, 20, math.MaxInt})
		m.Arm(n)
		p.arm(n)
	case 8:
		m.PowerOff()
		p.off = true
	case 9, 10:
		m.PowerOn()
		p.powerOn()
	case 11:
		b := g.bytes(p.size - g.below(3) + g.below(3))
		if got, want := m.Load(b), p.load(b); got != want {
			t.Fatalf("Load(%v) = %d, want %d", b, got, want)
		}
	case 12:
		checkReads(t, m, p, addr, g.address(p.size))
	case 13:
		clear(m.Image())
		clear(m.ReadBytes(addr, g.below(p.size)))
	}
}

// P7.1: any sequence of operations agrees with a memory that is kept plainly; so do the calls of the meters.
func TestOperations(t *testing.T) {
	g := generator(5)
	failed := 0
	for range 1500 {
		size := 2 + g.below(12)
		m, p := memory(t, size), newPlain(size)
		a, b := &budget{}, &budget{}
		for range 60 {
			wasOff := p.off
			if g.below(15) == 0 {
				n := g.below(12)
				*a, *b = budget{allowed: n}, budget{allowed: n}
				m.Meter(a.spend)
				p.meter = b.spend
			} else if g.below(15) == 0 {
				m.Meter(nil)
				p.meter = nil
			} else {
				operate(t, &g, m, p)
			}
			checkPlain(t, m, p, "an operation")
			if *a != *b {
				t.Fatalf("the meter was called %d times, want %d", a.calls, b.calls)
			}
			if p.off && !wasOff {
				failed++
			}
		}
	}
	if failed < 3000 {
		t.Errorf("the power went off %d times only", failed)
	}
}

// request is a byte write that was requested.
type request struct {
	addr int
	b    byte
}

// writeSome requests a few writes of all kinds, and returns the requests for bytes.
func writeSome(g *generator, m *Memory, size int) []request {
	var l []request
	for range 1 + g.below(8) {
		addr := g.below(size - 1)
		b := g.bytes(2)
		switch g.below(3) {
		case 0:
			b = b[:1]
			m.Write(addr, b[0])
		case 1:
			m.WriteWord(addr, int16(uint16(b[0])|uint16(b[1])<<8))
		case 2:
			b = g.bytes(g.below(size - addr + 1))
			m.WriteBytes(addr, b)
		}
		for i, x := range b {
			l = append(l, request{addr + i, x})
		}
	}
	return l
}

// P7.2: for every point at which the power can fail, the memory contains the bytes of the requests before it,
// then and when the power is on again.
func TestPrefix(t *testing.T) {
	for seed := 1; seed <= 150; seed++ {
		size := 2 + seed%30
		for k := 0; ; k++ {
			g := generator(seed * 977)
			m := memory(t, size)
			image := g.bytes(size)
			m.Load(image)
			if seed%2 == 0 {
				m.Arm(k)
			} else {
				m.Meter((&budget{allowed: k}).spend)
			}
			requests := writeSome(&g, m, size)
			n := min(k, len(requests))
			for _, x := range requests[:n] {
				image[x.addr] = x.b
			}
			check(t, m, image, k < len(requests), int64(n), "a power failure")
			m.PowerOn()
			if !bytes.Equal(m.ReadBytes(0, size), image) {
				t.Fatalf("after PowerOn: %v, want %v", m.ReadBytes(0, size), image)
			}
			if k > len(requests) {
				break
			}
		}
	}
}

// P7.2: a history with many power failures leaves the bytes of the requests that were successful: each time
// those of a prefix of the requests since the power was on.
func TestManyFailures(t *testing.T) {
	g := generator(6)
	for range 300 {
		size := 2 + g.below(20)
		m, image := memory(t, size), make([]byte, size)
		for range 30 {
			before := m.Writes()
			switch g.below(4) {
			case 0:
				m.Arm(g.below(30))
			case 1:
				m.Meter((&budget{allowed: g.below(30)}).spend)
			case 2:
				m.Meter(nil)
			case 3:
				if g.below(3) == 0 {
					m.PowerOff()
				}
			}
			requests := writeSome(&g, m, size)
			n := int(m.Writes() - before)
			if n > len(requests) || n < len(requests) && !m.Off() {
				t.Fatalf("%d of %d requests were successful, Off() = %v", n, len(requests), m.Off())
			}
			for _, x := range requests[:n] {
				image[x.addr] = x.b
			}
			check(t, m, image, m.Off(), before+int64(n), "many failures")
			m.PowerOn()
		}
	}
}
