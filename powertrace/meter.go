package powertrace

import (
	"slices"

	"trickle/api"
)

// unlimited is what Left returns when the power never fails any more.
const unlimited = -1

// Meter is the energy that is left in a schedule. After the last period the power never fails.
type Meter struct {
	rest     []api.Period // the current period, also while its power is off, and those behind it
	left     int          // of the energy of the current period
	failed   bool
	failures int
}

// Start returns a meter at the beginning of a schedule.
func Start(l []api.Period) (*Meter, api.Errno) {
	if !Valid(l) {
		return nil, api.ErrInvalid
	}
	m := &Meter{rest: slices.Clone(l)}
	m.begin()
	return m, api.OK
}

// begin turns the power on for the current period, if there is one.
func (m *Meter) begin() {
	m.failed = false
	if len(m.rest) > 0 {
		m.left = m.rest[0].Energy
	}
}

// Spend uses energy; it reports false if the power is off, or fails because less energy is left.
func (m *Meter) Spend(n int) bool {
	if m.failed {
		return false
	}
	if len(m.rest) == 0 {
		return true
	}
	n = max(n, 0)
	if n > m.left {
		m.left = 0
		m.failed = true
		m.failures++
		return false
	}
	m.left -= n
	return true
}

// Failed reports whether the power is off.
func (m *Meter) Failed() bool { return m.failed }

// Next ends the off time of the current period and returns it, or returns false if the power is on.
func (m *Meter) Next() (int64, bool) {
	if !m.failed {
		return 0, false
	}
	off := m.rest[0].Off
	m.rest = m.rest[1:]
	m.begin()
	return off, true
}

// Left returns the energy that is left in the current period: none while the power is off.
func (m *Meter) Left() int {
	if len(m.rest) == 0 {
		return unlimited
	}
	return m.left
}

// Periods returns how often the power has failed.
func (m *Meter) Periods() int { return m.failures }
