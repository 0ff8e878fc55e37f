package fresh

import "espalier/api"

// Plan is p, all lists within it in memory of their own. It must be right (chapter 11): then it is no deeper than plans may be.
func Plan(p api.Plan) api.Plan {
	p.Where = Term(p.Where)
	p.From = each(p.From, Plan)
	return p
}
