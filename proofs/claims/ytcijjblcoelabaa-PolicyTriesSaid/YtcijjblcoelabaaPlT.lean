/-
  What comes of a try, case by case, in plain lists.
-/
import Derived.Test.YtcijjblcoelabaaPlMath
set_option linter.unusedVariables false
set_option linter.unusedSimpArgs false
namespace Go.Proofs.Ytcijjblcoelabaa

theorem Mt.try_bad {p : Mt.Po} {s : Mt.Ps} {now : Int} {right : Bool} (h : (Mt.okPo p && (Mt.rightB s && Mt.isT now)) = false) : Mt.tryL p s now right = (s, 1) := by unfold Mt.tryL; rw [if_pos h]
theorem Mt.try_locked {p : Mt.Po} {s : Mt.Ps} {now : Int} {right : Bool} (h : (Mt.okPo p && (Mt.rightB s && Mt.isT now)) = true) (h2 : Mt.lockedB p s now = true) : Mt.tryL p s now right = (s, 2) := by unfold Mt.tryL; rw [if_neg (by rw [h]; decide), if_pos h2]
theorem Mt.try_fail {p : Mt.Po} {s : Mt.Ps} {now : Int} (h : (Mt.okPo p && (Mt.rightB s && Mt.isT now)) = true) (h2 : Mt.lockedB p s now = false) : Mt.tryL p s now false = (Mt.failL p s now, 1) := by unfold Mt.tryL; rw [if_neg (by rw [h]; decide), if_neg (by rw [h2]; decide), if_pos rfl]
theorem Mt.try_stale {p : Mt.Po} {s : Mt.Ps} {now : Int} (h : (Mt.okPo p && (Mt.rightB s && Mt.isT now)) = true) (h2 : Mt.lockedB p s now = false) (h3 : Mt.staleB p s now = true) : Mt.tryL p s now true = (s, 3) := by unfold Mt.tryL; rw [if_neg (by rw [h]; decide), if_neg (by rw [h2]; decide), if_neg (by decide), if_pos h3]
theorem Mt.try_good {p : Mt.Po} {s : Mt.Ps} {now : Int} (h : (Mt.okPo p && (Mt.rightB s && Mt.isT now)) = true) (h2 : Mt.lockedB p s now = false) (h3 : Mt.staleB p s now = false) : Mt.tryL p s now true = (Mt.newS s.changed, 0) := by unfold Mt.tryL; rw [if_neg (by rw [h]; decide), if_neg (by rw [h2]; decide), if_neg (by decide), if_neg (by rw [h3]; decide)]
end Go.Proofs.Ytcijjblcoelabaa
