package journal

import (
	"strings"

	"castellan/api"
	"castellan/crc"
	"castellan/octet"
)

// Room is how many bytes of a record stand in a cell.
const Room = 110

// A sector begins with its sum and a mark; what a cell has in front of a record's bytes is front bytes long.
const (
	sumSize    = 4
	genSize    = 4
	numberSize = 4
	partSize   = 2
	front      = sumSize + 1 + genSize + numberSize + 2*partSize + 1
	cellMark   = "C"
	headMark   = "H"
	maxGen     = 1<<(8*genSize) - 1
)

// cell is a part of a record, with the record's number and how many parts that has. No cell has the generation 0.
type cell struct {
	gen, number uint64
	part, parts int
	body        string
}

// sector answers the bytes of a cell.
func (c cell) sector() string {
	return seal(cellMark + octet.Put(c.gen, genSize) + octet.Put(c.number, numberSize) +
		octet.Put(uint64(c.part), partSize) + octet.Put(uint64(c.parts), partSize) +
		octet.Put(uint64(len(c.body)), 1) + c.body)
}

// sound tells whether a cell's numbers may stand beside each other.
func (c cell) sound() bool {
	switch {
	case c.gen == 0 || c.part >= c.parts:
		return false
	case c.part < c.parts-1:
		return len(c.body) == Room
	}
	return len(c.body) > 0 || c.parts == 1
}

// readCell answers the cell that a sector is; the zero cell, where it is none.
func readCell(s string) cell {
	if !marked(s, cellMark) {
		return cell{}
	}
	length := number(s, front-1, 1)
	if length > Room {
		return cell{}
	}
	c := cell{
		gen:    number(s, sumSize+1, genSize),
		number: number(s, sumSize+1+genSize, numberSize),
		part:   int(number(s, front-1-2*partSize, partSize)),
		parts:  int(number(s, front-1-partSize, partSize)),
		body:   s[front : front+int(length)],
	}
	// The cell made anew is the sector, if the sum is right and noughts alone stand behind.
	if !c.sound() || c.sector() != s {
		return cell{}
	}
	return c
}

// head names the half in which the records of a generation stand. No head has the generation 0.
type head struct {
	gen  uint64
	half int
}

// sector answers the bytes of a head.
func (h head) sector() string {
	return seal(headMark + octet.Put(h.gen, genSize) + octet.Put(uint64(h.half), 1))
}

// readHead answers the head that a sector is; the zero head, where it is none.
func readHead(s string) head {
	if !marked(s, headMark) {
		return head{}
	}
	h := head{gen: number(s, sumSize+1, genSize), half: int(number(s, sumSize+1+genSize, 1))}
	if h.gen == 0 || h.half > 1 || h.sector() != s {
		return head{}
	}
	return h
}

// seal answers a sector: s, filled up with noughts, behind the sum of these bytes.
func seal(s string) string {
	s += strings.Repeat("\x00", api.Sector-sumSize-len(s))
	return octet.Put(uint64(crc.Sum(s)), sumSize) + s
}

// marked tells whether s is as long as a sector, and has the mark behind the place of the sum.
func marked(s, mark string) bool {
	return len(s) == api.Sector && s[sumSize:sumSize+1] == mark
}

// number answers the number of so many bytes that stands at that place of a sector.
func number(s string, at, size int) uint64 {
	n, _ := octet.Get(s, at, size)
	return n
}
