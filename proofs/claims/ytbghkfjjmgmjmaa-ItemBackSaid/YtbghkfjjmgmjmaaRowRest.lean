import Derived.Test.YtbghkfjjmgmjmaaRowPut
import Derived.Test.YtbghkfjjmgmjmaaMemOps
namespace Go.Proofs.Ytbghkfjjmgmjmaa.row
open Go.RowKit Go.Proofs.Ytbghkfjjmgmjmaa.mem

theorem info8 : (Try.prog.info? 5).map (fun i => (i.zero, i.size, i.bytes)) = some (some (.int .u8 0), 1, 1) := by kernel_rfl

/-- A slice in memory of its own, or none, that reads as these bytes. -/
def NewBytes (w w' : World) (A : Option Addr) (cap : Nat) (bs : List UInt8) : Prop :=
  (A = none ∧ cap = 0 ∧ bs = []) ∨ ∃ g, A = some ⟨g, 0, none⟩ ∧ w.heap.size ≤ g ∧ cap ≤ maxLen ∧ Arr w' g cap bs

theorem NewBytes.mono {w w1 w' : World} {A : Option Addr} {cap : Nat} {bs : List UInt8} (h : NewBytes w1 w' A cap bs) (hs : w.heap.size ≤ w1.heap.size) : NewBytes w w' A cap bs := by
  rcases h with h | ⟨g, h1, h2, h3⟩
  · exact .inl h
  · exact .inr ⟨g, h1, by omega, h3⟩

theorem arr_of_own {w : World} {base g n cap : Nat} {bs : List UInt8} (h : w.ownsRow base 5 1 (.slice (some ⟨g, 0, none⟩) n cap) n (bs.map B)) : base ≤ g ∧ cap ≤ maxLen ∧ Arr w g cap bs := by
  rcases h.2 with ⟨h, _⟩ | ⟨g', cap', cur, h, hb, hh, hn, hm, hs, ht⟩
  · cases h
  · injection h with h1 _ h2
    injection h1 with h1
    injection h1 with h1
    subst h1 h2
    have hl : bs.length = n := by simpa using h.1
    refine ⟨hb, hm, cur, hh, by simpa using hs, by omega, fun i x hx => ?_⟩
    have hi : i < bs.length := (List.getElem?_eq_some_iff.1 hx).1
    have e : (bs.map B)[i]? = some (B x) := by rw [List.getElem?_map, hx]; rfl
    rw [← ht, List.getElem?_take_of_lt (by omega)] at e
    simpa using e

theorem own_lit (w : World) : (w.alloc (.cells #[] 5)).ownsRow w.heap.size 5 1 (.slice (some ⟨w.heap.size, 0, none⟩) 0 0) 0 [] :=
  ⟨by simp, .inr ⟨_, 0, #[], rfl, Nat.le_refl _, heap_alloc_new w _, Nat.le_refl _, Nat.zero_le _, rfl, rfl⟩⟩

theorem newBytes_of_own {w w' : World} {v : Value} {n : Nat} {bs : List UInt8} (h : w'.ownsRow w.heap.size 5 1 v n (bs.map B)) : ∃ A cap, v = .slice A bs.length cap ∧ NewBytes w w' A cap bs := by
  have hl : bs.length = n := by simpa using h.1
  subst hl
  rcases h.2 with ⟨rfl, h0⟩ | ⟨g, cap, cur, rfl, hb, _⟩
  · exact ⟨none, 0, by rw [h0], .inl ⟨rfl, rfl, List.eq_nil_of_length_eq_zero h0⟩⟩
  · obtain ⟨_, hm, ha⟩ := arr_of_own h
    exact ⟨_, _, rfl, .inr ⟨g, rfl, hb, hm, ha⟩⟩

set_option maxHeartbeats 400000 in
theorem clone_some (ad : Addr) (c : Nat) (bs : List UInt8) (w : World) (hv : Vals w [] (some ad) (bs.map B)) (hm : bs.length ≤ 140737488355328) :
    Calls Try.prog 38 #[.slice (some ad) bs.length c] w fun e w' => ∃ A' cap, e = .returned (.slice A' bs.length cap) ∧ NewBytes w w' A' cap bs ∧ Kept [] w w' := by
  have hnil := Lib.run_eql_slice_nil (P := Try.prog)
  have HV : Hid (Vals (w.alloc (.cells #[] 5)) [] (some ad) (bs.map B)) := hide (hv.kept (S' := []) ((Kept.refl _ w).alloc _) (fun _ h => h))
  clear hv
  go_enter Try.func38, Try.ntmps38
  go_wp2_with (at_builtin; refine wpList_append_vals rfl (.tmp 5) (.tmp 6) 27 rfl w.heap.size 5 (.int .u8 0) 1 1 Try.underlying27 info8 rfl (by omega) (.slice (some ⟨w.heap.size, 0, none⟩) 0 0) 0 [] rfl (own_lit w) [] (some ad) bs.length c (bs.map B) rfl (by simp) HV.out (oneCell_B bs) (by simp only [maxLen]; omega) (by omega) (by simp) ?_; intro v1 w1 hown1 hk1 hat1)
  go_ret
  obtain ⟨A1, c1, rfl, hn1⟩ := newBytes_of_own (w := w) (bs := bs) (by simpa using hown1)
  refine ⟨A1, c1, rfl, hn1, ?_⟩
  refine ((Kept.refl [] w).alloc (.cells #[] 5)).trans hk1 (fun i hi => .inr ?_)
  simp [Value.ownBlock] at hi
  omega

theorem clone_nil (w : World) : Calls Try.prog 38 #[.slice none 0 0] w fun e w' => e = .returned (.slice none 0 0) ∧ w = w' := by
  have hnil := Lib.run_eql_slice_nil (P := Try.prog)
  go_enter Try.func38, Try.ntmps38
  go_wp2
  go_ret
  exact ⟨rfl, rfl⟩

theorem clone_any (A : Option Addr) (c : Nat) (bs : List UInt8) (w : World) (hv : Vals w [] A (bs.map B)) (hA : A = none → c = 0) (hm : bs.length ≤ 140737488355328) :
    Calls Try.prog 38 #[.slice A bs.length c] w fun e w' => ∃ A' cap, e = .returned (.slice A' bs.length cap) ∧ NewBytes w w' A' cap bs ∧ Kept [] w w' := by
  rcases A with _ | ad
  · obtain rfl : bs = [] := by
      rcases bs with _ | ⟨x, bs⟩
      · rfl
      · obtain ⟨ad, h, _⟩ := hv 0 (B x) rfl
        cases h
    obtain rfl := hA rfl
    exact (clone_nil w).mono fun e w' ⟨he, hw⟩ => ⟨_, _, he, .inl ⟨rfl, rfl, rfl⟩, by subst hw; exact Kept.refl _ _⟩
  · exact clone_some ad c bs w hv hm

section
variable {w w' : World} {p b cap : Nat} {A : Option Addr} {R : Row}
theorem RowAt.kept {S : List Nat} (h : RowAt w p b cap A R) (k : Kept S w w') (hp : p ∉ S) (hb : b ∉ S) : RowAt w' p b cap A R := by
  obtain ⟨h1, h2, h3⟩ := h
  exact ⟨k.blk h1 hp, fun hn => (h2 hn).kept k hb, h3⟩
theorem RowAt.vals {S : List Nat} (h : RowAt w p b cap A R) (hb : b ∉ S) : Vals w S A (R.bs.map B) := by
  obtain ⟨_, h2, _, _, _, h⟩ := h
  rcases h with rfl | ⟨rfl, rfl⟩
  · by_cases hn : R.bs = []
    · rw [hn]; exact Vals.nil _ _ _
    · exact (h2 hn).vals hb
  · rename_i h3 h4 h5
    have : R.bs = [] := List.eq_nil_of_length_eq_zero (by omega)
    rw [this]; exact Vals.nil _ _ _
theorem RowAt.c0 (h : RowAt w p b cap A R) : w.cell? ⟨p, 0, none⟩ = some (.slice A R.bs.length cap) := h.1.cell 0
theorem RowAt.c1 (h : RowAt w p b cap A R) : w.cell? ⟨p, 1, none⟩ = some (.int .i64 R.pos) := h.1.cell 1
theorem RowAt.f1 (h : RowAt w p b cap A R) : w.frozen? ⟨p, 1, none⟩ = false := h.1.frozen 1
theorem RowAt.lt (h : RowAt w p b cap A R) : p < w.heap.size := h.1.lt
theorem RowAt.pos_le (h : RowAt w p b cap A R) : R.pos ≤ R.bs.length := h.2.2.2.1
theorem RowAt.len_le (h : RowAt w p b cap A R) : R.bs.length ≤ 65536 := h.2.2.2.2.1
theorem RowAt.le_cap (h : RowAt w p b cap A R) : R.bs.length ≤ cap := h.2.2.1
theorem RowAt.addr (h : RowAt w p b cap A R) : A = some ⟨b, 0, none⟩ ∨ A = none ∧ cap = 0 := h.2.2.2.2.2
theorem RowAt.nil0 (h : RowAt w p b cap A R) (hA : A = none) : cap = 0 := by
  rcases h.addr with h | h
  · rw [hA] at h; cases h
  · exact h.2
theorem RowAt.drewN (h : RowAt w p b cap A R) (k : Nat) : RowAt (w.drewN k) p b cap A R := h
/-- The row, its place moved. -/
theorem RowAt.moved (h : RowAt w p b cap A R) (n : Nat) (hn : R.pos + n ≤ R.bs.length) (q : Int) (hq : q = ((R.pos + n : Nat) : Int)) : RowAt (w.setCell ⟨p, 1, none⟩ (.int .i64 q)) p b cap A ⟨R.bs, R.pos + n⟩ := by
  subst hq
  obtain ⟨h1, h2, h3, h4, h5⟩ := h
  exact ⟨h1.set_ 1 _, fun hne => (h2 hne).far_ ((h2 hne).ne_ h1 (by decide)) _ _, h3, hn, h5⟩
end

theorem left_at (p b cap : Nat) (A : Option Addr) (R : Row) (w : World) (h : RowAt w p b cap A R) :
    Calls Try.prog 43 #[.pointer (some ⟨p, 0, none⟩)] w fun e w' => e = .returned (.int .i64 (R.bs.length - R.pos)) ∧ ∃ n, w' = w.drewN n :=
  left_any p A _ cap _ w h.c0 h.c1 (by omega) (by have := h.pos_le; omega) h.len_le

theorem bytes_at (p b cap : Nat) (A : Option Addr) (R : Row) (w : World) (h : RowAt w p b cap A R) :
    Calls Try.prog 25 #[.pointer (some ⟨p, 0, none⟩)] w fun e w' => ∃ A' cap', e = .returned (.slice A' R.bs.length cap') ∧ NewBytes w w' A' cap' R.bs ∧ Kept [] w w' := by
  have hc := h.c0
  have H := hide h
  have hl := h.len_le
  clear h
  go_enter Try.func25, Try.ntmps25
  go_wp2_with (go_at_call 38; refine (clone_any A cap R.bs _ (H.out.vals (by simp)) H.out.nil0 (by omega)).mono ?_; rintro e w' ⟨A', c', rfl, hv, hk⟩)
  go_ret
  exact ⟨A', c', rfl, hv, hk⟩

theorem bytes_nil (w : World) : Calls Try.prog 25 #[.pointer none] w fun e w' => e = .returned (.slice none 0 0) ∧ w = w' := by
  go_enter Try.func25, Try.ntmps25
  go_wp2
  go_ret
  exact ⟨rfl, rfl⟩

theorem rowAt_of_new {w w1 : World} {A : Option Addr} {cap : Nat} {bs : List UInt8} (hl : bs.length ≤ 65536) (hs : w.heap.size ≤ w1.heap.size) (hv : NewBytes w w1 A cap bs) : ∃ b, w.heap.size ≤ b ∧ b < w1.heap.size + 1 ∧
    RowAt (w1.alloc (.cells #[.slice A bs.length cap, .int .i64 0] 65)) w1.heap.size b cap A ⟨bs, 0⟩ := by
  rcases hv with ⟨rfl, rfl, rfl⟩ | ⟨g, rfl, hg, _, ha⟩
  · exact ⟨w.heap.size, Nat.le_refl _, by omega, Blk.new _ _ _, fun h => absurd rfl h, Nat.zero_le _, Nat.zero_le _, hl, .inr ⟨rfl, rfl⟩⟩
  · exact ⟨g, hg, by have := ha.lt; omega, Blk.new _ _ _, fun _ => ha.alloc _, ha.len, Nat.zero_le _, hl, .inl rfl⟩

theorem from_at (A : Option Addr) (c : Nat) (bs : List UInt8) (w : World) (hv : Vals w [] A (bs.map B)) (hA : A = none → c = 0) (hm : bs.length ≤ 65536) :
    Calls Try.prog 30 #[.slice A bs.length c] w fun e w' => ∃ p b cap A', e = .returned (.pointer (some ⟨p, 0, none⟩)) ∧ w.heap.size ≤ p ∧ w.heap.size ≤ b ∧ b < w'.heap.size ∧ RowAt w' p b cap A' ⟨bs, 0⟩ ∧ Kept [] w w' := by
  have H := hide hv
  clear hv
  go_enter Try.func30, Try.ntmps30
  go_wp2_with (go_at_call 38; refine (clone_any A c bs _ H.out hA (by omega)).mono ?_; rintro e w' ⟨A', c', rfl, hv, hk⟩)
  go_ret
  obtain ⟨b, hb, hb2, hr⟩ := rowAt_of_new hm hk.size hv
  exact ⟨_, b, c', A', rfl, hk.size, hb, by simpa using hb2, hr, hk.alloc _⟩

theorem from_no (A : Option Addr) (n c : Nat) (w : World) (hn : 65536 < n) :
    Calls Try.prog 30 #[.slice A n c] w fun e w' => e = .returned (.pointer none) ∧ w = w' := by
  go_enter Try.func30, Try.ntmps30
  go_wp2
  go_ret
  exact ⟨rfl, rfl⟩

end Go.Proofs.Ytbghkfjjmgmjmaa.row
