/- The laws' awake: what the document fixes. -/
import Derived.Test.YtfeepmahipecpaaImageLaw
namespace Go.Proofs.Ytfeepmahipecpaa.im
set_option linter.unusedSimpArgs false
set_option linter.unusedVariables false
open Go.RowKit Go.Proofs.Ytfeepmahipecpaa.mem Go.Proofs.Ytfeepmahipecpaa.base Go.Proofs.Ytfeepmahipecpaa.pd Go.Proofs.Ytfeepmahipecpaa.owns

def K0 : Im := Im.fresh 20
def K1 : Im := K0.put true ((K0.tb true).swap 3 50)
def K2 : Im := K1.put true ((K1.tb true).swap 3 60)
def K3 : Im := K2.commit
def K4 : Im := K3.put false ((K3.tb false).swap 3 70)
theorem k_facts : (K0.tb true).went 3 50 = 0 ∧ (K1.tb true).went 3 60 = 50 ∧ K2.b.l.getD 3 0 = 0 ∧ (if K2.o.l.getD 3 0 = -1 then K2.b.l.getD 3 0 else K2.o.l.getD 3 0) = 60 ∧ K2.went = [] ∧ K3.b.l.getD 3 0 = 60 ∧ (K3.tb false).went 3 70 = 60 ∧ (pendL K4.o.l).length = 0 ∧ K4.b.l.length = 20 ∧ K4.dirt false = [0] := by decide
theorem k_len : K0.b.l.length = 20 ∧ K1.b.l.length = 20 ∧ K2.b.l.length = 20 ∧ K3.b.l.length = 20 := by decide

set_option maxRecDepth 100000 in
set_option maxHeartbeats 4000000 in
theorem awake_any (w : World) :
    Calls Try.prog 5 #[] w fun e w' => e = .returned (.bool true) ∧ Kept [] w w' := by
  obtain ⟨f1, f2, f3, f4, f5, f6, f7, f8, f9, f10⟩ := k_facts
  obtain ⟨l0, l1, l2, l3⟩ := k_len
  have HF := hide (And.intro f1 (And.intro f2 (And.intro f3 (And.intro f4 (And.intro f5 (And.intro f6 (And.intro f7 (And.intro f8 (And.intro f9 f10)))))))))
  have HL := hide (And.intro l0 (And.intro l1 (And.intro l2 l3)))
  clear f1 f2 f3 f4 f5 f6 f7 f8 f9 f10 l0 l1 l2 l3
  go_enter Try.func5, Try.ntmps5
  go_wp2_with fail
  refine (inew_yes 20 _ (by decide) (by decide)).mono ?_
  rintro e w0 ⟨X, rfl, hn, hi, hk⟩
  have HN := hide hn
  have H0 := hide (show IAt w0 X K0 from hi)
  have HK0 := hide hk
  clear hn hi hk
  go_wp2_with fail
  refine (inew_no 65 _ (by decide)).mono ?_
  rintro e w' ⟨rfl, rfl⟩
  go_wp2_with fail
  refine (iwrite_yes H0.out 3 50 (by rw [HL.out.1]; decide) (by decide) (by decide)).mono ?_
  rintro e w1 ⟨rfl, hi, hk⟩
  rw [HF.out.1]
  have H1 := hide (show IAt w1 X K1 from hi)
  have HK1 := hide (HK0.out.trans hk (fun y hy => .inr (HN.out y (by obtain ⟨m1, m2, m3⟩ := X.tmem true; simp at hy; rcases hy with rfl | rfl <;> assumption))))
  clear hi hk
  go_wp2_with fail
  refine (iwrite_yes H1.out 3 60 (by rw [HL.out.2.1]; decide) (by decide) (by decide)).mono ?_
  rintro e w2 ⟨rfl, hi, hk⟩
  rw [HF.out.2.1]
  have H2 := hide (show IAt w2 X K2 from hi)
  have HK2 := hide (HK1.out.trans hk (fun y hy => .inr (HN.out y (by obtain ⟨m1, m2, m3⟩ := X.tmem true; simp at hy; rcases hy with rfl | rfl <;> assumption))))
  clear hi hk
  go_wp2_with fail
  refine (ref_yes H2.out 3 (by rw [HL.out.2.2.1]; decide)).mono ?_
  rintro e w' ⟨rfl, rfl⟩
  rw [HF.out.2.2.1]
  go_wp2_with fail
  refine (look_yes H2.out 3 (by rw [HL.out.2.2.1]; decide)).mono ?_
  rintro e w' ⟨rfl, rfl⟩
  rw [HF.out.2.2.2.1]
  go_wp2_with fail
  refine (commit_any H2.out).mono ?_
  rintro e w3 ⟨v, rfl, ho, hi, hk⟩
  rw [HF.out.2.2.2.2.1] at ho
  obtain ⟨A, c, rfl, hc, _⟩ := row_read ho
  have H3 := hide (show IAt w3 X K3 from hi)
  have HK3 := hide (HK2.out.trans hk (fun y hy => .inr (HN.out y (by obtain ⟨m1, m2, m3, m4, m5, m6, m7⟩ := X.mem; simp only [List.mem_cons, List.not_mem_nil, or_false] at hy; rcases hy with rfl | rfl | rfl | rfl <;> assumption))))
  clear hi hk ho
  go_wp2_with fail
  refine (ref_yes H3.out 3 (by rw [HL.out.2.2.2]; decide)).mono ?_
  rintro e w' ⟨rfl, rfl⟩
  rw [HF.out.2.2.2.2.2.1]
  go_wp2_with fail
  refine (iput_yes H3.out 3 70 (by rw [HL.out.2.2.2]; decide) (by decide) (by decide)).mono ?_
  rintro e w4 ⟨rfl, hi, hk⟩
  rw [HF.out.2.2.2.2.2.2.1]
  have H4 := hide (show IAt w4 X K4 from hi)
  have HK4 := hide (HK3.out.trans hk (fun y hy => .inr (HN.out y (by obtain ⟨m1, m2, m3⟩ := X.tmem false; simp at hy; rcases hy with rfl | rfl <;> assumption))))
  clear hi hk
  go_wp2_with fail
  refine (pending_any H4.out).mono ?_
  rintro e w5 ⟨rfl, hk⟩
  rw [HF.out.2.2.2.2.2.2.2.1]
  have H5 := hide (H4.out.keep hk)
  have HK5 := hide (HK4.out.trans hk (by simp))
  clear hk
  go_wp2_with fail
  refine (blocks_any H5.out).mono ?_
  rintro e w' ⟨rfl, rfl⟩
  rw [HF.out.2.2.2.2.2.2.2.2.1]
  go_wp2_with fail
  refine (dirty_any H5.out false 9 (by decide)).mono ?_
  rintro e w6 ⟨v, rfl, ho, hk⟩
  rw [HF.out.2.2.2.2.2.2.2.2.2] at ho
  obtain ⟨A2, c2, rfl, hc2, hv⟩ := row_read ho
  have HV := hide (show Vals w6 [] A2 (([0] : List Int).map I) from hv)
  have HK6 := hide (HK5.out.trans hk (by simp))
  clear ho hk hv
  go_wp2_with fail
  have HVa := hide (HV.out.kept ((Kept.refl [] w6).alloc (.cells #[.int .i64 0] 3)) (by simp))
  have HVb := hide (Vals.lit w6 [] 3 #[.int .i64 0] (0, 0) (([0] : List Int).map I) rfl (by simp))
  refine (pg.ints_any A2 (some ⟨w6.heap.size, 0, none⟩) 1 1 c2 1 [0] [0] _ rfl rfl HVa.out HVb.out (by decide)).mono ?_
  rintro e w7 ⟨rfl, hk⟩
  have HK7 := hide ((HK6.out.trans ((Kept.refl [] w6).alloc _) (by simp)).trans hk (by simp))
  clear hk
  go_wp2_with fail
  refine (blocks_nil _).mono ?_
  rintro e w' ⟨rfl, rfl⟩
  go_wp2_with fail
  refine (refs_none _).mono ?_
  rintro e w8 ⟨v8, rfl, ho, hk⟩
  obtain ⟨A3, c3, rfl, hc3, _⟩ := row_read ho
  have HK8 := hide (HK7.out.trans hk (by simp))
  clear ho hk
  go_wp2
  go_ret
  exact ⟨rfl, HK8.out⟩
end Go.Proofs.Ytfeepmahipecpaa.im
