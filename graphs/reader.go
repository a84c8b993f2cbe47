package graphs

import "dossier/api"

// reader goes through a text by its tokens and gathers the graph.
type reader struct {
	text  string
	now   token // the first one that is not taken yet
	graph Graph
	uses  []use
	fault Fault
}

func newReader(text string) *reader {
	return &reader{text: text, now: scan(text, 0)}
}

func (r *reader) lines() {
	for r.now.kind != textEnd {
		switch r.now.kind {
		case eventWord:
			r.event()
		case nameWord:
			r.rule()
		default:
			r.refuse(api.ErrText)
		}
	}
}

func (r *reader) event() {
	if len(r.graph.Events) == api.MaxEvents {
		r.refuse(api.ErrSize)
		return
	}
	r.take(eventWord)
	e := Event{Name: r.name(definition)}
	r.take(byWord)
	e.Roles = r.roles()
	e.First = r.firstMark()
	r.take(semicolon)
	r.graph.Events = append(r.graph.Events, e)
}

func (r *reader) roles() []string {
	roles := []string{r.name(roleName)}
	for r.takeIf(comma) {
		if r.now.kind == nameWord && len(roles) == api.MaxRoles {
			r.refuse(api.ErrSize)
		}
		roles = append(roles, r.name(roleName))
	}
	return roles
}

func (r *reader) firstMark() api.Mark {
	var m api.Mark
	m.In = !r.takeIf(outWord)
	m.Due = r.takeIf(dueWord)
	m.Done = r.takeIf(doneWord)
	return m
}

func (r *reader) rule() {
	if len(r.graph.Rules) == api.MaxRules {
		r.refuse(api.ErrSize)
		return
	}
	var rule Rule
	rule.Left = r.name(mention)
	rule.Kind = r.now.rule
	r.take(ruleSign)
	rule.Right = r.name(mention)
	r.take(semicolon)
	r.graph.Rules = append(r.graph.Rules, rule)
}

// name takes a name, and keeps what it is used for till all names are known.
func (r *reader) name(as usage) string {
	t := r.now
	if t.kind == nameWord && len(t.text) > api.MaxName {
		r.refuse(api.ErrSize)
	}
	r.uses = append(r.uses, use{as: as, event: len(r.graph.Events), name: t.text, at: t.at})
	r.take(nameWord)
	return t.text
}

func (r *reader) take(kind tokenKind) {
	if !r.takeIf(kind) {
		r.refuse(api.ErrText)
	}
}

func (r *reader) takeIf(kind tokenKind) bool {
	if r.now.kind != kind {
		return false
	}
	r.now = scan(r.text, r.now.at+len(r.now.text))
	return true
}

// refuse keeps the first fault alone. It puts the reader at the text's end, so
// that what is under way comes to its own end without another token.
func (r *reader) refuse(e api.Errno) {
	if r.fault.Errno == api.OK {
		r.fault = Fault{Errno: e, At: r.now.at}
	}
	r.now = token{kind: textEnd, at: len(r.text)}
}
