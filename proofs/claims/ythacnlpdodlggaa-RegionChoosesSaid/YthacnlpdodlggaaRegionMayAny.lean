/- Package region: May. -/
import Derived.Test.YthacnlpdodlggaaRegionMayA
import Derived.Test.YthacnlpdodlggaaRegionMayB
import Derived.Test.YthacnlpdodlggaaRegionMayC
import Derived.Test.YthacnlpdodlggaaRegionMayD
import Derived.Test.YthacnlpdodlggaaRegionMayE
namespace Go.Proofs.Ythacnlpdodlggaa.rg
open Go.RowKit Go.Proofs.Ythacnlpdodlggaa.mem Go.Proofs.Ythacnlpdodlggaa.base Go.Proofs.Ythacnlpdodlggaa.row

theorem bool_ret {P : Program} {f : FuncId} {args : Array Value} {w : World} {a b : Bool} (h : Calls P f args w fun e w' => e = .returned (.bool a) ∧ Kept [] w w') (hab : b = a) : Calls P f args w fun e w' => e = .returned (.bool b) ∧ Kept [] w w' := by
  rw [hab]
  exact h
theorem may_any (p : Nat) (D : Dv) (R : Rg) (X : Sl) (w : World) (hg : GD w p D) (h : RgIn w [] X R) (hs : X.small) :
    Calls Try.prog 11 #[.pointer (some ⟨p, 0, none⟩), R.val X] w fun e w' => e = .returned (.bool (R.may D)) ∧ Kept [] w w' := by
  by_cases h0 : 1 ≤ R.g ∧ R.g ≤ 2147483647
  · by_cases h1 : 1 ≤ R.v ∧ R.v ≤ 2147483647
    · by_cases h2 : 1 ≤ R.m ∧ R.m ≤ 2
      · by_cases h3 : 0 ≤ R.e ∧ R.e ≤ 2147483647
        · by_cases h4 : 0 ≤ R.q ∧ R.q ≤ 2147483647
          · by_cases h5 : 0 ≤ R.d ∧ R.d ≤ R.q
            · by_cases t1 : R.posMay D = true
              · by_cases t2 : slotsMay D.y R.bs = true
                · by_cases t3 : slotsMay D.y R.ov = true
                  · by_cases t4 : X.u = D.n
                    · refine bool_ret (may_way10 p D R X w hg h hs h0 h1 h2 h3 h4 h5 t1 t2 t3 t4) ?_
                      unfold Rg.may
                      rw [t1, t2, t3, decide_eq_true (by rw [h.hu, t4])]
                      simp [Rg.numMay, h0, h1, h2, h3, h4, h5]
                    · refine bool_ret (may_way9 p D R X w hg h hs h0 h1 h2 h3 h4 h5 t1 t2 t3 t4) ?_
                      unfold Rg.may
                      rw [decide_eq_false (by rw [h.hu]; exact t4)]
                      simp
                  · have t := (Bool.not_eq_true _).mp t3
                    refine bool_ret (may_way8 p D R X w hg h hs h0 h1 h2 h3 h4 h5 t1 t2 t) ?_
                    unfold Rg.may
                    rw [t]
                    simp
                · have t := (Bool.not_eq_true _).mp t2
                  refine bool_ret (may_way7 p D R X w hg h hs h0 h1 h2 h3 h4 h5 t1 t) ?_
                  unfold Rg.may
                  rw [t]
                  simp
              · have t := (Bool.not_eq_true _).mp t1
                refine bool_ret (may_way6 p D R X w hg h hs h0 h1 h2 h3 h4 h5 t) ?_
                unfold Rg.may
                rw [t]
                simp
            · refine bool_ret (may_way5 p D R X w hg h hs h0 h1 h2 h3 h4 h5) ?_
              simp [Rg.may, Rg.numMay, h0, h1, h2, h3, h4, h5]
          · refine bool_ret (may_way4 p D R X w hg h hs h0 h1 h2 h3 h4) ?_
            simp [Rg.may, Rg.numMay, h0, h1, h2, h3, h4]
        · refine bool_ret (may_way3 p D R X w hg h hs h0 h1 h2 h3) ?_
          simp [Rg.may, Rg.numMay, h0, h1, h2, h3]
      · refine bool_ret (may_way2 p D R X w hg h hs h0 h1 h2) ?_
        simp [Rg.may, Rg.numMay, h0, h1, h2]
    · refine bool_ret (may_way1 p D R X w hg h hs h0 h1) ?_
      simp [Rg.may, Rg.numMay, h0, h1]
  · refine bool_ret (may_way0 p D R X w hg h hs h0) ?_
    simp [Rg.may, Rg.numMay, h0]
end Go.Proofs.Ythacnlpdodlggaa.rg
