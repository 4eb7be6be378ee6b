import Derived.Test.YtolbalafhfpjbaaGreatPHeld
import Derived.OrdersIn
namespace Go.Proofs.YtolbalafhfpjbaaGreat.base
open Go.RowKit mem
def Only (Q : Exit → Act → World → Prop) : Exit → Act → World → Prop
 | .normal, a, w => Q .normal a w
 | _, _, _ => False
theorem Only.normal {Q : Exit → Act → World → Prop} {a : Act} {w : World} (h : Q .normal a w) : Only Q .normal a w := h
theorem Only.out {Q : Exit → Act → World → Prop} : ¬ LetsOut (Only Q) := fun ⟨_, _, h⟩ => h
theorem Only.imp {Q : Exit → Act → World → Prop} : ∀ (e : Exit) (a : Act) (w : World), Only Q e a w → Q e a w := fun e a w h => by
 cases e <;> first | exact h | exact (h : False).elim
def noDefer (ops : Array Oper) : Bool := ops.all fun o => match o.op with | .defer _ => false | _ => true
theorem noDefer_spec {ops : Array Oper} (h : noDefer ops = true) {i : Nat} {o : Oper} (ho : ops[i]? = some o) : ∀ c, o.op ≠ .defer c := by
 intro c hc
 unfold noDefer at h
 obtain ⟨hi, he⟩ := Array.getElem?_eq_some_iff.1 ho
 have := Array.all_eq_true.1 h i hi
 rw [he, hc] at this
 cases this

variable {P : Program} {ops : Array Oper} {Q : Exit → Act → World → Prop} {lp n : Nat}
theorem upon_round {o : Oper} {a : Act} {K K' : Act → World → Prop} (hK : ∀ a w, K a w → K' a w) : ∀ (r : Result Next), o.upon P a K Q r → o.uponIn (Fence.wide.inRound lp) n P a K' Q r := by
 intro r h
 cases r with
 | ok x w' =>
  cases x with
  | value v => exact hK _ _ h
  | skip => exact hK _ _ h
  | defer d => exact hK _ _ h
  | enter f args =>
   rw [Oper.upon_enter] at h
   rw [Oper.uponIn_enter]
   refine ⟨(fun hd => by cases hd), ?_⟩
   have h2 : CallsIn Fence.wide (n - 1) P f args w' _ := callsIn_wide.2 h
   refine CallsIn.mono (F := Fence.wide.inRound lp) h2 ?_
   intro e w'' he
   cases e <;> first | exact hK _ _ he | exact he
  | row row args =>
   rw [Oper.upon_row] at h
   rw [Oper.uponIn_row]
   refine ⟨(fun hd => by cases hd), ?_⟩
   intro c cs _
   obtain ⟨v, w'', h1, h2⟩ := h c cs
   exact ⟨v, w'', hK _ _ h1, stepsIn_wide.2 h2⟩
  | round l f tmps assign body => exact h.elim
  | _ => exact h.elim
 | halt x w' => cases x <;> exact h
theorem opsIn_round (hd : noDefer ops = true) (hq : ¬ LetsOut Q) : ∀ (l : List Nat) (a : Act) (w : World), wpOps P ops Q l a w → wpOpsIn (Fence.wide.inRound lp) n P ops Q l a w
 | [], _, _, h => h
 | i :: rest, a, w, h => by
  unfold wpOps at h
  unfold wpOpsIn
  cases ho : ops[i]? with
  | none =>
   rw [ho] at h
   exact opsIn_round hd hq rest a w h
  | some o =>
   rw [ho] at h
   dsimp only at h ⊢
   by_cases hw : Region.wanted o (yielded ops a.tmps) = true
   ·rw [if_pos hw] at h ⊢
    rcases h with h | h
    ·refine ⟨fun _ _ => trivial, ?_⟩
     rw [show (Fence.wide.inRound lp).round = some lp from rfl, Oper.semAt_some lp _ _ (noDefer_spec hd ho)]
     exact upon_round (fun a w h => opsIn_round hd hq rest a w h) _ h
    ·exact absurd h.2 hq
   ·rw [if_neg hw] at h ⊢
    exact ⟨fun _ _ => trivial, opsIn_round hd hq rest _ w h⟩
theorem round_held {S : World → Prop} {id : Nat} {a : Act} {w : World} (hm : P.follows .mixedOrders = true) (hd : noDefer ops = true) (hS : S w.drew)
  (h : S w.drew → wpAnyH P .any ops (Only Q) S ops.size (Array.replicate ops.size false) a w.drew) : (Code.region id ops true).wpIn (Fence.wide.inRound lp) n P Q a w := by
 refine wpIn_mono (Q := Only Q) (wpIn_region_draw fun t => ?_) Only.imp
 simp only [Region.schedule, hm, Bool.true_or, if_true]
 exact opsIn_round hd Only.out _ _ _ (wpAny_sound ops.size t _ a _ (wpAny_of_held _ _ _ _ (h hS)))
end Go.Proofs.YtolbalafhfpjbaaGreat.base
