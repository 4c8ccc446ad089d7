/- AgendaRuns: the given statement. -/
import Derived.Test.YtnddiobjojnckaaLAgendaRuns
namespace Go.Proofs.Ytnddiobjojnckaa
open Go.RowKit Go.Joins

theorem agendaRuns_holds : Rows.AgendaRunsSaid := agendaRuns_of (fun v0 x0 w h => by
  obtain ⟨p, c, rfl⟩ := h.slice
  exact runs_any p _ c x0 w h rfl)

end Go.Proofs.Ytnddiobjojnckaa
