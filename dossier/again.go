package dossier

import (
	"bytes"

	"dossier/api"
	"dossier/records"
)

// takeUp goes through a log as far as it is right: the case as it is then, and
// what an audit tells of it. The case is nil if there is no right head record.
func takeUp(log []byte) (*Case, api.Report) {
	// No record may end behind these, so the rest of a longer list is not even
	// taken apart.
	log = log[:min(len(log), api.MaxLog)]
	c := beginAgain(log)
	if c == nil {
		return nil, api.Report{}
	}
	var report api.Report
	right := true
	// Behind a wrong record none is taken, but only at the last one the
	// goroutine that sends them has ended.
	for record := range records.Split(log[c.log.Length:]) {
		right = right && c.askAgain(record, &report.Counts)
	}
	report.Head = c.Head()
	return c, report
}

// beginAgain answers nil if the log does not begin as a case of its graph does.
// New writes the graph in order: a text that is not in order begins otherwise.
func beginAgain(log []byte) *Case {
	graph, ok := records.Written(log)
	if !ok {
		return nil
	}
	c, head, e := New(graph)
	if e != api.OK || !bytes.HasPrefix(log, head) {
		return nil
	}
	return c
}

// askAgain tells whether the case answers the record's request with this very
// record. Only then the case has it, and it is counted by its verdict.
func (c *Case) askAgain(record records.Record, counts *[5]int) bool {
	verdict, right, e := c.Ask(record.Role, record.Event)
	if e != api.OK || !bytes.Equal(record.Bytes, right) {
		c.waiting = nil
		return false
	}
	c.Settle()
	counts[verdict]++
	return true
}
