package gas

import "math"

// Meter counts gas down.
type Meter struct{ left uint64 }

// NewMeter has so much.
func NewMeter(left uint64) *Meter { return &Meter{left: left} }

// Left is what is left.
func (m *Meter) Left() uint64 { return m.left }

// Pay takes n away; false: there are fewer, and nothing is taken.
func (m *Meter) Pay(n uint64) bool {
	if n > m.left {
		return false
	}
	m.left -= n
	return true
}

// Gain puts n back; false: it would be too much, and nothing is put back.
func (m *Meter) Gain(n uint64) bool {
	// The sum may be above any number of 64 bits: what room there is above left is asked instead.
	if n > math.MaxUint64-m.left {
		return false
	}
	m.left += n
	return true
}
