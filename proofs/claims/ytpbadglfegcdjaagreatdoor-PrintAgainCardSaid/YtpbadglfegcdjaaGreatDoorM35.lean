/- What was parsed, printed, is parsed again: plain mathematics. -/
import Derived.Test.YtpbadglfegcdjaaGreatDoorM20
import Derived.Test.YtpbadglfegcdjaaGreatDoorM17
namespace Go.Proofs.YtpbadglfegcdjaaGreatDoor
open Go
set_option linter.unusedVariables false

theorem parse_again {L : List Tk} (hl : TkOk L) {k : Int} {t : PS} (h : parseP L = .ok k t) (hd : deepN t.nodes ≤ 64) : ∃ toks, readL (textN t.nodes) 0 0 = .ok toks ∧ ∃ k2 t2, parseP (toks.map tkOfT) = .ok k2 t2 ∧ t2.nodes = t.nodes := by
  obtain ⟨hf, h4⟩ := parse_form hl h
  exact text_back hf h4 hd
end Go.Proofs.YtpbadglfegcdjaaGreatDoor
