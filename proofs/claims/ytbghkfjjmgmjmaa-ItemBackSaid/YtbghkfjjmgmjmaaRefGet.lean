import Derived.Test.YtbghkfjjmgmjmaaRefMore
namespace Go.Proofs.Ytbghkfjjmgmjmaa.ref
open Go.RowKit Go.Proofs.Ytbghkfjjmgmjmaa.mem Go.Proofs.Ytbghkfjjmgmjmaa.row

theorem quiet_eq {P : Program} {f : FuncId} {args : Array Value} {w : World} {n : Nat} {v : Value}
    (h : Calls P f args (w.drewN n) fun e w' => e = .returned v ∧ w.drewN n = w') : Calls P f args (w.drewN n) fun e w'' => e = .returned v ∧ ∃ m, w'' = w.drewN m :=
  h.mono fun _ _ ⟨he, hm⟩ => ⟨he, n, hm.symm⟩

theorem numOf_down (bs : List UInt8) (pos x j : Nat) (hj : j < x) (h : pos + x ≤ bs.length) :
    numOf (((bs.drop pos).take x).drop (x - (j + 1))) = ((bs[pos + (x - 1 - j)]'(by omega)).toNat : Int) + 256 * numOf (((bs.drop pos).take x).drop (x - j)) := by
  have hl : x - (j + 1) < ((bs.drop pos).take x).length := by simp; omega
  rw [List.drop_eq_getElem_cons hl]
  have e : ((bs.drop pos).take x)[x - (j + 1)] = bs[pos + (x - 1 - j)]'(by omega) := by
    simp only [List.getElem_take, List.getElem_drop]
    congr 1
    omega
  rw [e, show x - (j + 1) + 1 = x - j by omega]
  rfl

theorem pow3 (n : Nat) (h : n ≤ 3) : (256 : Int) ^ n ≤ 16777216 := by
  have h1 : n = 0 ∨ n = 1 ∨ n = 2 ∨ n = 3 := by omega
  rcases h1 with rfl | rfl | rfl | rfl <;> decide
theorem or_down (y : UInt8) (z : Int) (h : 0 ≤ z ∧ z < 16777216) : bits .or .i64 (wrap64 (z * 256)) (y.toNat : Int) = (y.toNat : Int) + 256 * z := by
  obtain ⟨n, rfl⟩ := Int.eq_ofNat_of_zero_le h.1
  have hy := y.toNat_lt
  have e : wrap64 ((n : Int) * 256) = ((n * 256 : Nat) : Int) := by
    unfold wrap64
    omega
  have e2 := or_far y.toNat n 8 hy (by omega)
  have e3 : ((n : Int) * ((2 ^ 8 : Nat) : Int)) = ((n * 256 : Nat) : Int) := by simp
  rw [e3, i64_or_nat _ _ (by omega) (by omega)] at e2
  rw [e, i64_or_nat _ _ (by omega) (by omega), Nat.or_comm, e2]
  omega

theorem rget_width (p b : Nat) (R : Row) (x : Int) (w : World) (h : RefAt w p b R) (hx : isW x = false) :
    Calls Try.prog 42 #[.pointer (some ⟨p, 0, none⟩), .int .i64 x] w fun e w' => e = .returned (.tuple #[.int .i64 0, .bool false]) ∧ ∃ k, w' = w.drewN k := by
  have HX := hide hx
  have hc0 := h.c0
  have hc1 := h.c1
  clear hx h
  go_enter Try.func42, Try.ntmps42
  go_wp2
  go_quiet ((go_at_call 39; exact quiet_eq (most_no _ _ HX.out)))
  go_wp2
  go_ret2
  exact ⟨rfl, _, rfl⟩

theorem rget_short (p b : Nat) (R : Row) (x : Int) (w : World) (h : RefAt w p b R) (hx : isW x = true) (hr : R.bs.length < R.pos + x) :
    Calls Try.prog 42 #[.pointer (some ⟨p, 0, none⟩), .int .i64 x] w fun e w' => e = .returned (.tuple #[.int .i64 0, .bool false]) ∧ ∃ k, w' = w.drewN k := by
  have HX := hide hx
  have hc0 := h.c0
  have hc1 := h.c1
  have hlen := h.len_le
  have hpl := h.pos_le
  have d0 : decide (mostOf x < 0) = false := decide_eq_false (by
    have hx' : x = 1 ∨ x = 2 ∨ x = 4 := by simpa [isW, or_assoc] using hx
    rcases hx' with rfl | rfl | rfl <;> decide)
  have g2 : IntKind.i64.wrap ((R.bs.length : Int) - (R.pos : Int)) = (R.bs.length : Int) - (R.pos : Int) := IntWalk.i64_in _ (by omega)
  have d1 : decide ((R.bs.length : Int) - (R.pos : Int) < x) = true := decide_eq_true (by omega)
  clear hx h
  go_enter Try.func42, Try.ntmps42
  go_wp2
  go_quiet ((go_at_call 39; exact quiet_eq (most_any _ _)))
  go_wp2
  go_ret2
  exact ⟨rfl, _, rfl⟩


set_option maxRecDepth 100000 in
theorem rget_ok (p b : Nat) (R : Row) (x : Nat) (w : World) (h : RefAt w p b R) (hx : isW (x : Int) = true) (hr : R.pos + x ≤ R.bs.length) :
    Calls Try.prog 42 #[.pointer (some ⟨p, 0, none⟩), .int .i64 x] w fun e w' =>
      e = .returned (.tuple #[.int .i64 (numOf ((R.bs.drop R.pos).take x)), .bool true]) ∧ RefAt w' p b ⟨R.bs, R.pos + x⟩ ∧ Kept [p] w w' := by
  have HX := hide hx
  have hx' : x = 1 ∨ x = 2 ∨ x = 4 := by
    have hx' : (x : Int) = 1 ∨ (x : Int) = 2 ∨ (x : Int) = 4 := by simpa [isW, or_assoc] using hx
    omega
  have hx4 : x ≤ 4 := by omega
  have hx0 : 0 < x := by omega
  have hc0 := h.c0
  have hc1 := h.c1
  have hf1 := h.f1
  have hlen := h.len_le
  have hpl := h.pos_le
  have d0 : decide (mostOf x < 0) = false := decide_eq_false (by rcases hx' with rfl | rfl | rfl <;> decide)
  have g2 : IntKind.i64.wrap ((R.bs.length : Int) - (R.pos : Int)) = (R.bs.length : Int) - (R.pos : Int) := IntWalk.i64_in _ (by omega)
  have d1 : decide ((R.bs.length : Int) - (R.pos : Int) < (x : Int)) = false := decide_eq_false (by omega)
  have H := hide h
  clear hx h hx'
  go_enter Try.func42, Try.ntmps42
  go_wp2
  go_quiet ((go_at_call 39; exact quiet_eq (most_any _ _)))
  go_wp2
  have HR := hide hr
  clear d0 d1 g2 hr
  go_loopw [6, 7] (fun v k wr => ∃ j : Nat, j ≤ x ∧ k = .int .i64 ((x : Int) - 1 - j) ∧ v = .int .i64 (numOf (((R.bs.drop R.pos).take x).drop (x - j))) ∧ ∃ d, wr = w.drewN d) (fun v k wr => (intOf k + 1).toNat)
  case atStart => exact ⟨0, Nat.zero_le _, by go_num, by rw [List.drop_of_length_le (by simp; omega)]; rfl, _, rfl⟩
  case round =>
    obtain ⟨j, hj, rfl, rfl, d, rfl⟩ := hrel
    by_cases hlt : j < x
    · have hpj : R.pos + (x - 1 - j) < R.bs.length := by have := HR.out; omega
      have hcb := H.out.2.1.cell (i := R.pos + (x - 1 - j)) hpj
      have hstep := hide (numOf_down (R.bs) R.pos x j hlt (by have := HR.out; omega))
      have hzb := numOf_bd (((R.bs.drop R.pos).take x).drop (x - j))
      generalize hy : R.bs[R.pos + (x - 1 - j)]'hpj = y at *
      generalize hz : numOf (((R.bs.drop R.pos).take x).drop (x - j)) = z at *
      have HY := hide hy
      have HZ := hide hz
      clear hy hz
      unfold B at hcb
      have hy256 : (y.toNat : Int) < 256 := by have := y.toNat_lt; omega
      have g0 : (0 : Int) ≤ (R.pos : Int) + ((x : Int) - 1 - j) := by omega
      have g1 : ((R.pos : Int) + ((x : Int) - 1 - j)).toNat = R.pos + (x - 1 - j) := by omega
      have g2 : (R.pos : Int) + ((x : Int) - 1 - j) < R.bs.length := by omega
      have g3 : IntKind.i64.wrap ((R.pos : Int) + ((x : Int) - 1 - j)) = (R.pos : Int) + ((x : Int) - 1 - j) := IntWalk.i64_in _ (by omega)
      have hzb3 : Hid (0 ≤ z ∧ z < 16777216) := hide ⟨hzb.1, Int.lt_of_lt_of_le hzb.2 (pow3 _ (by simp; omega))⟩
      clear hzb
      go_wp2
      go_quiet (fail)
      go_wp2
      go_roundw
      case rel => exact ⟨j + 1, by omega, by go_num, by rw [hstep.out]; exact congrArg (fun q => Value.int .i64 q) (or_down y z hzb3.out), _, rfl⟩
      case measure => simp [intOf]; omega
    · obtain rfl : j = x := by omega
      go_wp2
      go_ret2
      rw [Nat.sub_self, List.drop_zero]
      exact ⟨rfl, (H.out.moved j (by have := HR.out; omega) _ (by omega)).drewN _, ((Kept.refl _ w).set_ (.inl (by simp)) _ _).drewN _⟩
end Go.Proofs.Ytbghkfjjmgmjmaa.ref
