// Package dossier: cases that go by rules, and their logs: see DOC.md.
package dossier

import (
	"dossier/api"
	"dossier/graphs"
)

// Print reads a graph and writes it in order (P3 to P5).
func Print(graph string) (string, api.Errno, int) {
	g, fault := graphs.Read(graph)
	if fault.Errno != api.OK {
		return "", fault.Errno, fault.At
	}
	return g.Text(), api.OK, 0
}

// Hash is a number out of bytes (P6).
func Hash(b []byte) uint32 { return 0 }

// Case is a graph, and how its events stand.
type Case struct{}

// New begins a case, and tells the beginning of its log (P7).
func New(graph string) (*Case, []byte, api.Errno) { return nil, nil, api.OK }

// Ask asks for an event, and tells the verdict, and what is to be written behind the log (P8).
func (c *Case) Ask(role string, event string) (api.Verdict, []byte, api.Errno) {
	return 0, nil, api.OK
}

// Settle: what the last Ask told is written (P8).
func (c *Case) Settle() api.Errno { return api.OK }

// Mark tells how an event stands (P9).
func (c *Case) Mark(event string) (api.Mark, api.Errno) { return api.Mark{}, api.OK }

// Enabled tells the events that a role could ask for (P9).
func (c *Case) Enabled(role string) []string { return nil }

// Accepting tells whether nothing is due (P9).
func (c *Case) Accepting() bool { return false }

// Head is the hash of the last record (P9).
func (c *Case) Head() uint32 { return 0 }

// Recover takes a case up again from a log (P10).
func Recover(log []byte) (*Case, int, api.Errno) { return nil, 0, api.OK }

// Audit looks a log through (P11).
func Audit(log []byte, head uint32) (api.Report, int, api.Errno) {
	return api.Report{}, 0, api.OK
}
