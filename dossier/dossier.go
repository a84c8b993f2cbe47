// Package dossier: cases that go by rules, and their logs: see DOC.md.
package dossier

import (
	"strings"

	"dossier/api"
	"dossier/graphs"
	"dossier/records"
	"dossier/states"
)

// Print reads a graph and writes it in order (P3 to P5).
func Print(graph string) (string, api.Errno, int) {
	g, fault := graphs.Read(graph)
	if fault.Errno != api.OK {
		return "", fault.Errno, fault.At
	}
	return g.Text(), api.OK, 0
}

// Hash is a number out of bytes (P6).
func Hash(b []byte) uint32 { return records.Hash(b) }

// Case is a graph, and how its events stand.
type Case struct {
	state   *states.State
	log     records.End
	waiting *request // what was asked and not settled yet, or nil
}

// request is what Settle needs to know of an Ask.
type request struct {
	event   string
	verdict api.Verdict
	log     records.End // as it will be with the record
}

// New begins a case, and tells the beginning of its log (P7).
func New(graph string) (*Case, []byte, api.Errno) {
	g, fault := graphs.Read(graph)
	if fault.Errno != api.OK {
		return nil, nil, fault.Errno
	}
	head, end := records.Begin(g.Text())
	return &Case{state: states.Begin(g), log: end}, head, api.OK
}

// Ask asks for an event, and tells the verdict, and what is to be written behind the log (P8).
func (c *Case) Ask(role string, event string) (api.Verdict, []byte, api.Errno) {
	if c.waiting != nil {
		return 0, nil, api.ErrBusy
	}
	if len(role) > api.MaxName || len(event) > api.MaxName {
		return 0, nil, api.ErrLong
	}
	verdict := c.state.Verdict(role, event)
	record, end := c.log.Next(role, event, verdict)
	if end.Length > api.MaxLog {
		return 0, nil, api.ErrFull
	}
	c.waiting = &request{event: strings.Clone(event), verdict: verdict, log: end}
	return verdict, record, api.OK
}

// Settle: what the last Ask told is written (P8).
func (c *Case) Settle() api.Errno {
	if c.waiting == nil {
		return api.ErrIdle
	}
	c.log = c.waiting.log
	if c.waiting.verdict == api.Accepted {
		c.state.Do(c.waiting.event)
	}
	c.waiting = nil
	return api.OK
}

// Mark tells how an event stands (P9).
func (c *Case) Mark(event string) (api.Mark, api.Errno) {
	mark, ok := c.state.Mark(event)
	if !ok {
		return api.Mark{}, api.ErrName
	}
	return mark, api.OK
}

// Enabled tells the events that a role could ask for (P9).
func (c *Case) Enabled(role string) []string { return c.state.Enabled(role) }

// Accepting tells whether nothing is due (P9).
func (c *Case) Accepting() bool { return c.state.Accepting() }

// Head is the hash of the last record (P9).
func (c *Case) Head() uint32 { return c.log.Hash }

// Recover takes a case up again from a log (P10).
func Recover(log []byte) (*Case, int, api.Errno) {
	c, _ := takeUp(log)
	if c == nil {
		return nil, 0, api.ErrLog
	}
	return c, c.log.Length, api.OK
}

// Audit looks a log through (P11).
func Audit(log []byte, head uint32) (api.Report, int, api.Errno) {
	c, report := takeUp(log)
	switch {
	case c == nil:
		return api.Report{}, 0, api.ErrLog
	case c.log.Length != len(log):
		return api.Report{}, c.log.Length, api.ErrLog
	case c.Head() != head:
		return api.Report{}, len(log), api.ErrHead
	}
	return report, len(log), api.OK
}
