import Derived.Test.YtjkmahmoclobmaaGreatYShapes
import Derived.Test.YtjkmahmoclobmaaGreatYAlike
import Derived.StillTailTactics
namespace Go.Proofs.YtjkmahmoclobmaaGreat.item
open Go.RowKit mem base
theorem may_iff4 (k b c v:Int):It.may ⟨k,b,c,v⟩=true↔(((k=1∨k=5)∧(0≤b∧b≤63)∧c=0∧v=0)∨((k=2∨k=6)∧(0≤b∧b≤63)∧(1≤c∧c≤64-b)∧v=0)∨
  (k=3∧b=0∧c=0∧(1≤v∧v≤2147483647))∨(k=4∧(0≤b∧b≤63)∧c=0∧(1≤v∧v≤4095))∨(k=7∧b=0∧c=0∧(0≤v∧v≤31))):=It.may_iff _
theorem may_no4 (k b c v:Int):It.may ⟨k,b,c,v⟩=false↔¬(((k=1∨k=5)∧(0≤b∧b≤63)∧c=0∧v=0)∨((k=2∨k=6)∧(0≤b∧b≤63)∧(1≤c∧c≤64-b)∧v=0)∨
  (k=3∧b=0∧c=0∧(1≤v∧v≤2147483647))∨(k=4∧(0≤b∧b≤63)∧c=0∧(1≤v∧v≤4095))∨(k=7∧b=0∧c=0∧(0≤v∧v≤31))):=It.may_no _
theorem between (n a b:Int)(w:World):
  Calls Tryz.prog 196 #[.int .i64 n,.int .i64 a,.int .i64 b] w fun e w'=>e= .returned (.bool (decide (a≤n)&&decide (n≤b)))∧w=w':=by
 by_cases h:a≤n
 ·go_enter Tryz.func196,Tryz.ntmps196;go_wp2;go_ret;exact⟨by simp [h],rfl⟩
 ·go_enter Tryz.func196,Tryz.ntmps196;go_wp2;go_ret;exact⟨by rw[show decide (a≤n)=false from decide_eq_false (by omega)];rfl,rfl⟩
theorem between_yes (n a b:Int)(w:World)(h:a≤n∧n≤b):
  Calls Tryz.prog 196 #[.int .i64 n,.int .i64 a,.int .i64 b] w fun e w'=>e= .returned (.bool true)∧w=w':=
 (between n a b w).mono fun e w' ⟨he,hw⟩=>⟨by rw[he];simp [h.1,h.2],hw⟩
theorem between_no (n a b:Int)(w:World)(h:¬(a≤n∧n≤b)):
  Calls Tryz.prog 196 #[.int .i64 n,.int .i64 a,.int .i64 b] w fun e w'=>e= .returned (.bool false)∧w=w':=
 (between n a b w).mono fun e w' ⟨he,hw⟩=>⟨by rw[he];congr 2;rw[←Bool.not_eq_true,Bool.and_eq_true,decide_eq_true_iff,decide_eq_true_iff];exact h,hw⟩
theorem within_ex (n a b:Int)(w:World):
  Calls Tryz.prog 69 #[.int .i64 n,.int .i64 a,.int .i64 b] w fun e w'=>∃ q,e= .returned (.bool q)∧w=w':=
 (base.within_any n a b w).mono fun _ _ ⟨he,hw⟩=>⟨_,he,hw⟩
theorem block_yes (n:Int)(w:World)(h:0≤n∧n≤63):
  Calls Tryz.prog 195 #[.int .i64 n] w fun e w'=>e= .returned (.bool true)∧w=w':=by
 go_enter Tryz.func195,Tryz.ntmps195;go_wp2_with fail;refine(between_yes n 0 63 _ h).mono ?_;rintro e w1 ⟨rfl,rfl⟩;go_wp2;go_ret;exact⟨rfl,rfl⟩
theorem block_no (n:Int)(w:World)(h:¬(0≤n∧n≤63)):
  Calls Tryz.prog 195 #[.int .i64 n] w fun e w'=>e= .returned (.bool false)∧w=w':=by
 have H:=hide h;clear h;go_enter Tryz.func195,Tryz.ntmps195;go_wp2_with fail;refine(between_no n 0 63 _ H.out).mono ?_;rintro e w1 ⟨rfl,rfl⟩;go_wp2;go_ret;exact⟨rfl,rfl⟩

theorem may_1 (b c v:Int)(w:World):
  Calls Tryz.prog 161 #[.agg #[.int .i64 1,.int .i64 b,.int .i64 c,.int .i64 v]] w fun e w'=>e= .returned (.bool (It.may ⟨1,b,c,v⟩))∧Kept [] w w':=by
 have hk:=hide ((Kept.refl [] w).alloc (.cells #[.int .i64 1,.int .i64 b,.int .i64 c,.int .i64 v] 84))
 by_cases hb:0≤b∧b≤63
 ·skip
  by_cases hc:c=0
  ·skip
   by_cases hv:v=0
   ·skip
    have HM:Hid (It.may ⟨1,b,c,v⟩=true):=hide ((may_iff4 _ _ _ _).2 (by omega));have HB:=hide hb;subst hc;subst hv;go_enter Tryz.func161,Tryz.ntmps161;go_wp2_with fail;refine(block_yes b _ HB.out).mono ?_;rintro e w1 ⟨rfl,rfl⟩;go_wp2;go_ret;exact⟨by rw[HM.out];rfl,hk.out⟩
   ·skip
    have HM:Hid (It.may ⟨1,b,c,v⟩=false):=hide ((may_no4 _ _ _ _).2 (by omega));have HB:=hide hb;have he:(v==0)=false:=beq_eq_false_iff_ne.2 hv;clear hv;subst hc;go_enter Tryz.func161,Tryz.ntmps161;go_wp2_with fail;refine(block_yes b _ HB.out).mono ?_;rintro e w1 ⟨rfl,rfl⟩;go_wp2;go_ret;exact⟨by rw[HM.out];rfl,hk.out⟩
  ·skip
   have HM:Hid (It.may ⟨1,b,c,v⟩=false):=hide ((may_no4 _ _ _ _).2 (by omega));have HB:=hide hb;have he:(c==0)=false:=beq_eq_false_iff_ne.2 hc;clear hc;go_enter Tryz.func161,Tryz.ntmps161;go_wp2_with fail;refine(block_yes b _ HB.out).mono ?_;rintro e w1 ⟨rfl,rfl⟩;go_wp2;go_ret;exact⟨by rw[HM.out];rfl,hk.out⟩
 ·skip
  have HM:Hid (It.may ⟨1,b,c,v⟩=false):=hide ((may_no4 _ _ _ _).2 (by omega));have HB:=hide hb;clear hb;go_enter Tryz.func161,Tryz.ntmps161;go_wp2_with fail;refine(block_no b _ HB.out).mono ?_;rintro e w1 ⟨rfl,rfl⟩;go_wp2;go_ret;exact⟨by rw[HM.out];rfl,hk.out⟩

theorem may_2 (b c v:Int)(w:World):
  Calls Tryz.prog 161 #[.agg #[.int .i64 2,.int .i64 b,.int .i64 c,.int .i64 v]] w fun e w'=>e= .returned (.bool (It.may ⟨2,b,c,v⟩))∧Kept [] w w':=by
 have hk:=hide ((Kept.refl [] w).alloc (.cells #[.int .i64 2,.int .i64 b,.int .i64 c,.int .i64 v] 84))
 by_cases hb:0≤b∧b≤63
 ·skip
  by_cases hr:1≤c∧c≤(64-b)
  ·skip
   by_cases hv:v=0
   ·skip
    have HM:Hid (It.may ⟨2,b,c,v⟩=true):=hide ((may_iff4 _ _ _ _).2 (by omega));have HB:=hide hb;have HR:=hide hr;subst hv;go_enter Tryz.func161,Tryz.ntmps161;go_wp2_with fail;refine(block_yes b _ HB.out).mono ?_;rintro e w1 ⟨rfl,rfl⟩;go_wp2_with fail;refine(between_yes c 1 (64-b) _ HR.out).mono ?_;rintro e w2 ⟨rfl,rfl⟩;go_wp2;go_ret;exact⟨by rw[HM.out];rfl,hk.out⟩
   ·skip
    have HM:Hid (It.may ⟨2,b,c,v⟩=false):=hide ((may_no4 _ _ _ _).2 (by omega));have HB:=hide hb;have HR:=hide hr;have he:(v==0)=false:=beq_eq_false_iff_ne.2 hv;clear hv;go_enter Tryz.func161,Tryz.ntmps161;go_wp2_with fail;refine(block_yes b _ HB.out).mono ?_;rintro e w1 ⟨rfl,rfl⟩;go_wp2_with fail;refine(between_yes c 1 (64-b) _ HR.out).mono ?_;rintro e w2 ⟨rfl,rfl⟩;go_wp2;go_ret;exact⟨by rw[HM.out];rfl,hk.out⟩
  ·skip
   have HM:Hid (It.may ⟨2,b,c,v⟩=false):=hide ((may_no4 _ _ _ _).2 (by omega));have HB:=hide hb;have HR:=hide hr;clear hr;go_enter Tryz.func161,Tryz.ntmps161;go_wp2_with fail;refine(block_yes b _ HB.out).mono ?_;rintro e w1 ⟨rfl,rfl⟩;go_wp2_with fail;refine(between_no c 1 (64-b) _ HR.out).mono ?_;rintro e w2 ⟨rfl,rfl⟩;go_wp2;go_ret;exact⟨by rw[HM.out];rfl,hk.out⟩
 ·skip
  have HM:Hid (It.may ⟨2,b,c,v⟩=false):=hide ((may_no4 _ _ _ _).2 (by omega));have HB:=hide hb;clear hb;go_enter Tryz.func161,Tryz.ntmps161;go_wp2_with fail;refine(block_no b _ HB.out).mono ?_;rintro e w1 ⟨rfl,rfl⟩;go_wp2;go_ret;exact⟨by rw[HM.out];rfl,hk.out⟩

theorem may_3 (b c v:Int)(w:World):
  Calls Tryz.prog 161 #[.agg #[.int .i64 3,.int .i64 b,.int .i64 c,.int .i64 v]] w fun e w'=>e= .returned (.bool (It.may ⟨3,b,c,v⟩))∧Kept [] w w':=by
 have hk:=hide ((Kept.refl [] w).alloc (.cells #[.int .i64 3,.int .i64 b,.int .i64 c,.int .i64 v] 84))
 by_cases hb:b=0
 ·skip
  by_cases hc:c=0
  ·skip
   by_cases hr:1≤v∧v≤2147483647
   ·skip
    have HM:Hid (It.may ⟨3,b,c,v⟩=true):=hide ((may_iff4 _ _ _ _).2 (by omega));have HR:=hide hr;subst hb;subst hc;go_enter Tryz.func161,Tryz.ntmps161;go_wp2_with fail;refine(between_yes v 1 2147483647 _ HR.out).mono ?_;rintro e w2 ⟨rfl,rfl⟩;go_wp2;go_ret;exact⟨by rw[HM.out];rfl,hk.out⟩
   ·skip
    have HM:Hid (It.may ⟨3,b,c,v⟩=false):=hide ((may_no4 _ _ _ _).2 (by omega));have HR:=hide hr;clear hr;subst hb;subst hc;go_enter Tryz.func161,Tryz.ntmps161;go_wp2_with fail;refine(between_no v 1 2147483647 _ HR.out).mono ?_;rintro e w2 ⟨rfl,rfl⟩;go_wp2;go_ret;exact⟨by rw[HM.out];rfl,hk.out⟩
  ·skip
   have HM:Hid (It.may ⟨3,b,c,v⟩=false):=hide ((may_no4 _ _ _ _).2 (by omega));have he:(c==0)=false:=beq_eq_false_iff_ne.2 hc;clear hc;subst hb;go_enter Tryz.func161,Tryz.ntmps161;go_wp2;go_ret;exact⟨by rw[HM.out];rfl,hk.out⟩
 ·skip
  have HM:Hid (It.may ⟨3,b,c,v⟩=false):=hide ((may_no4 _ _ _ _).2 (by omega));have he:(b==0)=false:=beq_eq_false_iff_ne.2 hb;clear hb;go_enter Tryz.func161,Tryz.ntmps161;go_wp2;go_ret;exact⟨by rw[HM.out];rfl,hk.out⟩

theorem may_4 (b c v:Int)(w:World):
  Calls Tryz.prog 161 #[.agg #[.int .i64 4,.int .i64 b,.int .i64 c,.int .i64 v]] w fun e w'=>e= .returned (.bool (It.may ⟨4,b,c,v⟩))∧Kept [] w w':=by
 have hk:=hide ((Kept.refl [] w).alloc (.cells #[.int .i64 4,.int .i64 b,.int .i64 c,.int .i64 v] 84))
 by_cases hb:0≤b∧b≤63
 ·skip
  by_cases hc:c=0
  ·skip
   by_cases hr:1≤v∧v≤4095
   ·skip
    have HM:Hid (It.may ⟨4,b,c,v⟩=true):=hide ((may_iff4 _ _ _ _).2 (by omega));have HB:=hide hb;have HR:=hide hr;subst hc;go_enter Tryz.func161,Tryz.ntmps161;go_wp2_with fail;refine(block_yes b _ HB.out).mono ?_;rintro e w1 ⟨rfl,rfl⟩;go_wp2_with fail;refine(between_yes v 1 4095 _ HR.out).mono ?_;rintro e w2 ⟨rfl,rfl⟩;go_wp2;go_ret;exact⟨by rw[HM.out];rfl,hk.out⟩
   ·skip
    have HM:Hid (It.may ⟨4,b,c,v⟩=false):=hide ((may_no4 _ _ _ _).2 (by omega));have HB:=hide hb;have HR:=hide hr;clear hr;subst hc;go_enter Tryz.func161,Tryz.ntmps161;go_wp2_with fail;refine(block_yes b _ HB.out).mono ?_;rintro e w1 ⟨rfl,rfl⟩;go_wp2_with fail;refine(between_no v 1 4095 _ HR.out).mono ?_;rintro e w2 ⟨rfl,rfl⟩;go_wp2;go_ret;exact⟨by rw[HM.out];rfl,hk.out⟩
  ·skip
   have HM:Hid (It.may ⟨4,b,c,v⟩=false):=hide ((may_no4 _ _ _ _).2 (by omega));have HB:=hide hb;have he:(c==0)=false:=beq_eq_false_iff_ne.2 hc;clear hc;go_enter Tryz.func161,Tryz.ntmps161;go_wp2_with fail;refine(block_yes b _ HB.out).mono ?_;rintro e w1 ⟨rfl,rfl⟩;go_wp2;go_ret;exact⟨by rw[HM.out];rfl,hk.out⟩
 ·skip
  have HM:Hid (It.may ⟨4,b,c,v⟩=false):=hide ((may_no4 _ _ _ _).2 (by omega));have HB:=hide hb;clear hb;go_enter Tryz.func161,Tryz.ntmps161;go_wp2_with fail;refine(block_no b _ HB.out).mono ?_;rintro e w1 ⟨rfl,rfl⟩;go_wp2;go_ret;exact⟨by rw[HM.out];rfl,hk.out⟩

theorem may_5 (b c v:Int)(w:World):
  Calls Tryz.prog 161 #[.agg #[.int .i64 5,.int .i64 b,.int .i64 c,.int .i64 v]] w fun e w'=>e= .returned (.bool (It.may ⟨5,b,c,v⟩))∧Kept [] w w':=by
 have hk:=hide ((Kept.refl [] w).alloc (.cells #[.int .i64 5,.int .i64 b,.int .i64 c,.int .i64 v] 84))
 by_cases hb:0≤b∧b≤63
 ·skip
  by_cases hc:c=0
  ·skip
   by_cases hv:v=0
   ·skip
    have HM:Hid (It.may ⟨5,b,c,v⟩=true):=hide ((may_iff4 _ _ _ _).2 (by omega));have HB:=hide hb;subst hc;subst hv;go_enter Tryz.func161,Tryz.ntmps161;go_wp2_with fail;refine(block_yes b _ HB.out).mono ?_;rintro e w1 ⟨rfl,rfl⟩;go_wp2;go_ret;exact⟨by rw[HM.out];rfl,hk.out⟩
   ·skip
    have HM:Hid (It.may ⟨5,b,c,v⟩=false):=hide ((may_no4 _ _ _ _).2 (by omega));have HB:=hide hb;have he:(v==0)=false:=beq_eq_false_iff_ne.2 hv;clear hv;subst hc;go_enter Tryz.func161,Tryz.ntmps161;go_wp2_with fail;refine(block_yes b _ HB.out).mono ?_;rintro e w1 ⟨rfl,rfl⟩;go_wp2;go_ret;exact⟨by rw[HM.out];rfl,hk.out⟩
  ·skip
   have HM:Hid (It.may ⟨5,b,c,v⟩=false):=hide ((may_no4 _ _ _ _).2 (by omega));have HB:=hide hb;have he:(c==0)=false:=beq_eq_false_iff_ne.2 hc;clear hc;go_enter Tryz.func161,Tryz.ntmps161;go_wp2_with fail;refine(block_yes b _ HB.out).mono ?_;rintro e w1 ⟨rfl,rfl⟩;go_wp2;go_ret;exact⟨by rw[HM.out];rfl,hk.out⟩
 ·skip
  have HM:Hid (It.may ⟨5,b,c,v⟩=false):=hide ((may_no4 _ _ _ _).2 (by omega));have HB:=hide hb;clear hb;go_enter Tryz.func161,Tryz.ntmps161;go_wp2_with fail;refine(block_no b _ HB.out).mono ?_;rintro e w1 ⟨rfl,rfl⟩;go_wp2;go_ret;exact⟨by rw[HM.out];rfl,hk.out⟩

theorem may_6 (b c v:Int)(w:World):
  Calls Tryz.prog 161 #[.agg #[.int .i64 6,.int .i64 b,.int .i64 c,.int .i64 v]] w fun e w'=>e= .returned (.bool (It.may ⟨6,b,c,v⟩))∧Kept [] w w':=by
 have hk:=hide ((Kept.refl [] w).alloc (.cells #[.int .i64 6,.int .i64 b,.int .i64 c,.int .i64 v] 84))
 by_cases hb:0≤b∧b≤63
 ·skip
  by_cases hr:1≤c∧c≤(64-b)
  ·skip
   by_cases hv:v=0
   ·skip
    have HM:Hid (It.may ⟨6,b,c,v⟩=true):=hide ((may_iff4 _ _ _ _).2 (by omega));have HB:=hide hb;have HR:=hide hr;subst hv;go_enter Tryz.func161,Tryz.ntmps161;go_wp2_with fail;refine(block_yes b _ HB.out).mono ?_;rintro e w1 ⟨rfl,rfl⟩;go_wp2_with fail;refine(between_yes c 1 (64-b) _ HR.out).mono ?_;rintro e w2 ⟨rfl,rfl⟩;go_wp2;go_ret;exact⟨by rw[HM.out];rfl,hk.out⟩
   ·skip
    have HM:Hid (It.may ⟨6,b,c,v⟩=false):=hide ((may_no4 _ _ _ _).2 (by omega));have HB:=hide hb;have HR:=hide hr;have he:(v==0)=false:=beq_eq_false_iff_ne.2 hv;clear hv;go_enter Tryz.func161,Tryz.ntmps161;go_wp2_with fail;refine(block_yes b _ HB.out).mono ?_;rintro e w1 ⟨rfl,rfl⟩;go_wp2_with fail;refine(between_yes c 1 (64-b) _ HR.out).mono ?_;rintro e w2 ⟨rfl,rfl⟩;go_wp2;go_ret;exact⟨by rw[HM.out];rfl,hk.out⟩
  ·skip
   have HM:Hid (It.may ⟨6,b,c,v⟩=false):=hide ((may_no4 _ _ _ _).2 (by omega));have HB:=hide hb;have HR:=hide hr;clear hr;go_enter Tryz.func161,Tryz.ntmps161;go_wp2_with fail;refine(block_yes b _ HB.out).mono ?_;rintro e w1 ⟨rfl,rfl⟩;go_wp2_with fail;refine(between_no c 1 (64-b) _ HR.out).mono ?_;rintro e w2 ⟨rfl,rfl⟩;go_wp2;go_ret;exact⟨by rw[HM.out];rfl,hk.out⟩
 ·skip
  have HM:Hid (It.may ⟨6,b,c,v⟩=false):=hide ((may_no4 _ _ _ _).2 (by omega));have HB:=hide hb;clear hb;go_enter Tryz.func161,Tryz.ntmps161;go_wp2_with fail;refine(block_no b _ HB.out).mono ?_;rintro e w1 ⟨rfl,rfl⟩;go_wp2;go_ret;exact⟨by rw[HM.out];rfl,hk.out⟩

theorem may_7 (b c v:Int)(w:World):
  Calls Tryz.prog 161 #[.agg #[.int .i64 7,.int .i64 b,.int .i64 c,.int .i64 v]] w fun e w'=>e= .returned (.bool (It.may ⟨7,b,c,v⟩))∧Kept [] w w':=by
 have hk:=hide ((Kept.refl [] w).alloc (.cells #[.int .i64 7,.int .i64 b,.int .i64 c,.int .i64 v] 84))
 by_cases hb:b=0
 ·skip
  by_cases hc:c=0
  ·skip
   by_cases hr:0≤v∧v≤31
   ·skip
    have HM:Hid (It.may ⟨7,b,c,v⟩=true):=hide ((may_iff4 _ _ _ _).2 (by omega));have HR:=hide hr;subst hb;subst hc;go_enter Tryz.func161,Tryz.ntmps161;go_wp2_with fail;refine(between_yes v 0 31 _ HR.out).mono ?_;rintro e w2 ⟨rfl,rfl⟩;go_wp2;go_ret;exact⟨by rw[HM.out];rfl,hk.out⟩
   ·skip
    have HM:Hid (It.may ⟨7,b,c,v⟩=false):=hide ((may_no4 _ _ _ _).2 (by omega));have HR:=hide hr;clear hr;subst hb;subst hc;go_enter Tryz.func161,Tryz.ntmps161;go_wp2_with fail;refine(between_no v 0 31 _ HR.out).mono ?_;rintro e w2 ⟨rfl,rfl⟩;go_wp2;go_ret;exact⟨by rw[HM.out];rfl,hk.out⟩
  ·skip
   have HM:Hid (It.may ⟨7,b,c,v⟩=false):=hide ((may_no4 _ _ _ _).2 (by omega));have he:(c==0)=false:=beq_eq_false_iff_ne.2 hc;clear hc;subst hb;go_enter Tryz.func161,Tryz.ntmps161;go_wp2;go_ret;exact⟨by rw[HM.out];rfl,hk.out⟩
 ·skip
  have HM:Hid (It.may ⟨7,b,c,v⟩=false):=hide ((may_no4 _ _ _ _).2 (by omega));have he:(b==0)=false:=beq_eq_false_iff_ne.2 hb;clear hb;go_enter Tryz.func161,Tryz.ntmps161;go_wp2;go_ret;exact⟨by rw[HM.out];rfl,hk.out⟩

theorem may_0 (k b c v:Int)(w:World)(h:k≠1∧k≠2∧k≠3∧k≠4∧k≠5∧k≠6∧k≠7):
  Calls Tryz.prog 161 #[.agg #[.int .i64 k,.int .i64 b,.int .i64 c,.int .i64 v]] w fun e w'=>e= .returned (.bool (It.may ⟨k,b,c,v⟩))∧Kept [] w w':=by
 have hk:=hide ((Kept.refl [] w).alloc (.cells #[.int .i64 k,.int .i64 b,.int .i64 c,.int .i64 v] 84));have HM:Hid (It.may ⟨k,b,c,v⟩=false):=hide ((may_no4 _ _ _ _).2 (by omega));have k1:(k==1)=false:=beq_eq_false_iff_ne.2 (by omega);have k2:(k==2)=false:=beq_eq_false_iff_ne.2 (by omega);have k3:(k==3)=false:=beq_eq_false_iff_ne.2 (by omega);have k4:(k==4)=false:=beq_eq_false_iff_ne.2 (by omega);have k5:(k==5)=false:=beq_eq_false_iff_ne.2 (by omega);have k6:(k==6)=false:=beq_eq_false_iff_ne.2 (by omega);have k7:(k==7)=false:=beq_eq_false_iff_ne.2 (by omega);clear h;go_enter Tryz.func161,Tryz.ntmps161;go_wp2;go_ret;exact⟨by rw[HM.out];rfl,hk.out⟩

theorem may_any (i:It)(w:World):
  Calls Tryz.prog 161 #[i.val] w fun e w'=>e= .returned (.bool i.may)∧Kept [] w w':=by
 obtain⟨k,b,c,v⟩:=i;unfold It.val
 by_cases h1:k=1
 ·subst h1;exact may_1 b c v w
 by_cases h2:k=2
 ·subst h2;exact may_2 b c v w
 by_cases h3:k=3
 ·subst h3;exact may_3 b c v w
 by_cases h4:k=4
 ·subst h4;exact may_4 b c v w
 by_cases h5:k=5
 ·subst h5;exact may_5 b c v w
 by_cases h6:k=6
 ·subst h6;exact may_6 b c v w
 by_cases h7:k=7
 ·subst h7;exact may_7 b c v w
 exact may_0 k b c v w ⟨h1,h2,h3,h4,h5,h6,h7⟩

theorem rmay_1 (b c v:Int)(w:World):
  Calls Tryz.prog 103 #[.agg #[.int .i64 1,.int .i64 b,.int .i64 c,.int .i64 v]] w fun e w'=>e= .returned (.bool (It.may ⟨1,b,c,v⟩))∧Kept [] w w':=by
 have hk:=hide ((Kept.refl [] w).alloc (.cells #[.int .i64 1,.int .i64 b,.int .i64 c,.int .i64 v] 84))
 by_cases hb:0≤b∧b≤63
 ·skip
  by_cases hc:c=0
  ·skip
   by_cases hv:v=0
   ·skip
    have HM:Hid (It.may ⟨1,b,c,v⟩=true):=hide ((may_iff4 _ _ _ _).2 (by omega));have HB:=hide hb;subst hc;subst hv;go_enter Tryz.func103,Tryz.ntmps103;go_wp2_with fail;refine(base.within_yes b 0 63 _ HB.out).mono ?_;rintro e w1 ⟨rfl,rfl⟩;go_wp2;go_ret;exact⟨by rw[HM.out];rfl,hk.out⟩
   ·skip
    have HM:Hid (It.may ⟨1,b,c,v⟩=false):=hide ((may_no4 _ _ _ _).2 (by omega));have HB:=hide hb;have he:(v==0)=false:=beq_eq_false_iff_ne.2 hv;clear hv;subst hc;go_enter Tryz.func103,Tryz.ntmps103;go_wp2_with fail;refine(base.within_yes b 0 63 _ HB.out).mono ?_;rintro e w1 ⟨rfl,rfl⟩;go_wp2;go_ret;exact⟨by rw[HM.out];rfl,hk.out⟩
  ·skip
   have HM:Hid (It.may ⟨1,b,c,v⟩=false):=hide ((may_no4 _ _ _ _).2 (by omega));have HB:=hide hb;have he:(c==0)=false:=beq_eq_false_iff_ne.2 hc;clear hc;go_enter Tryz.func103,Tryz.ntmps103;go_wp2_with fail;refine(base.within_yes b 0 63 _ HB.out).mono ?_;rintro e w1 ⟨rfl,rfl⟩;go_wp2;go_ret;exact⟨by rw[HM.out];rfl,hk.out⟩
 ·skip
  have HM:Hid (It.may ⟨1,b,c,v⟩=false):=hide ((may_no4 _ _ _ _).2 (by omega));have HB:=hide hb;clear hb;go_enter Tryz.func103,Tryz.ntmps103;go_wp2_with fail;refine(base.within_no b 0 63 _ HB.out).mono ?_;rintro e w1 ⟨rfl,rfl⟩;go_wp2;go_ret;exact⟨by rw[HM.out];rfl,hk.out⟩

theorem rmay_2 (b c v:Int)(w:World):
  Calls Tryz.prog 103 #[.agg #[.int .i64 2,.int .i64 b,.int .i64 c,.int .i64 v]] w fun e w'=>e= .returned (.bool (It.may ⟨2,b,c,v⟩))∧Kept [] w w':=by
 have hk:=hide ((Kept.refl [] w).alloc (.cells #[.int .i64 2,.int .i64 b,.int .i64 c,.int .i64 v] 84))
 by_cases hb:0≤b∧b≤63
 ·skip
  by_cases hr:1≤c∧c≤(64-b)
  ·skip
   by_cases hv:v=0
   ·skip
    have HM:Hid (It.may ⟨2,b,c,v⟩=true):=hide ((may_iff4 _ _ _ _).2 (by omega));have HB:=hide hb;have HR:=hide hr;subst hv;go_enter Tryz.func103,Tryz.ntmps103;go_wp2_with fail;refine(base.within_yes b 0 63 _ HB.out).mono ?_;rintro e w1 ⟨rfl,rfl⟩;go_wp2_with fail;refine(base.within_yes c 1 (64-b) _ HR.out).mono ?_;rintro e w2 ⟨rfl,rfl⟩;go_wp2;go_ret;exact⟨by rw[HM.out];rfl,hk.out⟩
   ·skip
    have HM:Hid (It.may ⟨2,b,c,v⟩=false):=hide ((may_no4 _ _ _ _).2 (by omega));have HB:=hide hb;have HR:=hide hr;have he:(v==0)=false:=beq_eq_false_iff_ne.2 hv;clear hv;go_enter Tryz.func103,Tryz.ntmps103;go_wp2_with fail;refine(base.within_yes b 0 63 _ HB.out).mono ?_;rintro e w1 ⟨rfl,rfl⟩;go_wp2_with fail;refine(base.within_yes c 1 (64-b) _ HR.out).mono ?_;rintro e w2 ⟨rfl,rfl⟩;go_wp2;go_ret;exact⟨by rw[HM.out];rfl,hk.out⟩
  ·skip
   have HM:Hid (It.may ⟨2,b,c,v⟩=false):=hide ((may_no4 _ _ _ _).2 (by omega));have HB:=hide hb;have HR:=hide hr;clear hr;go_enter Tryz.func103,Tryz.ntmps103;go_wp2_with fail;refine(base.within_yes b 0 63 _ HB.out).mono ?_;rintro e w1 ⟨rfl,rfl⟩;go_wp2_with fail;refine(base.within_no c 1 (64-b) _ HR.out).mono ?_;rintro e w2 ⟨rfl,rfl⟩;go_wp2;go_ret;exact⟨by rw[HM.out];rfl,hk.out⟩
 ·skip
  have HM:Hid (It.may ⟨2,b,c,v⟩=false):=hide ((may_no4 _ _ _ _).2 (by omega));have HB:=hide hb;clear hb;go_enter Tryz.func103,Tryz.ntmps103;go_wp2_with fail;refine(base.within_no b 0 63 _ HB.out).mono ?_;rintro e w1 ⟨rfl,rfl⟩;go_wp2;go_ret;exact⟨by rw[HM.out];rfl,hk.out⟩

theorem rmay_3 (b c v:Int)(w:World):
  Calls Tryz.prog 103 #[.agg #[.int .i64 3,.int .i64 b,.int .i64 c,.int .i64 v]] w fun e w'=>e= .returned (.bool (It.may ⟨3,b,c,v⟩))∧Kept [] w w':=by
 have hk:=hide ((Kept.refl [] w).alloc (.cells #[.int .i64 3,.int .i64 b,.int .i64 c,.int .i64 v] 84))
 by_cases hb:b=0
 ·skip
  by_cases hc:c=0
  ·skip
   by_cases hr:1≤v∧v≤2147483647
   ·skip
    have HM:Hid (It.may ⟨3,b,c,v⟩=true):=hide ((may_iff4 _ _ _ _).2 (by omega));have HR:=hide hr;subst hb;subst hc;go_enter Tryz.func103,Tryz.ntmps103;go_wp2_with fail;refine(within_ex _ 0 63 _).mono ?_;rintro e w1 ⟨q,rfl,rfl⟩;go_wp2_with fail;refine(base.within_yes v 1 2147483647 _ HR.out).mono ?_;rintro e w2 ⟨rfl,rfl⟩;go_wp2;go_ret;exact⟨by rw[HM.out];rfl,hk.out⟩
   ·skip
    have HM:Hid (It.may ⟨3,b,c,v⟩=false):=hide ((may_no4 _ _ _ _).2 (by omega));have HR:=hide hr;clear hr;subst hb;subst hc;go_enter Tryz.func103,Tryz.ntmps103;go_wp2_with fail;refine(within_ex _ 0 63 _).mono ?_;rintro e w1 ⟨q,rfl,rfl⟩;go_wp2_with fail;refine(base.within_no v 1 2147483647 _ HR.out).mono ?_;rintro e w2 ⟨rfl,rfl⟩;go_wp2;go_ret;exact⟨by rw[HM.out];rfl,hk.out⟩
  ·skip
   have HM:Hid (It.may ⟨3,b,c,v⟩=false):=hide ((may_no4 _ _ _ _).2 (by omega));have he:(c==0)=false:=beq_eq_false_iff_ne.2 hc;clear hc;subst hb;go_enter Tryz.func103,Tryz.ntmps103;go_wp2_with fail;refine(within_ex _ 0 63 _).mono ?_;rintro e w1 ⟨q,rfl,rfl⟩;go_wp2;go_ret;exact⟨by rw[HM.out];rfl,hk.out⟩
 ·skip
  have HM:Hid (It.may ⟨3,b,c,v⟩=false):=hide ((may_no4 _ _ _ _).2 (by omega));have he:(b==0)=false:=beq_eq_false_iff_ne.2 hb;clear hb;go_enter Tryz.func103,Tryz.ntmps103;go_wp2_with fail;refine(within_ex _ 0 63 _).mono ?_;rintro e w1 ⟨q,rfl,rfl⟩;go_wp2;go_ret;exact⟨by rw[HM.out];rfl,hk.out⟩

theorem rmay_4 (b c v:Int)(w:World):
  Calls Tryz.prog 103 #[.agg #[.int .i64 4,.int .i64 b,.int .i64 c,.int .i64 v]] w fun e w'=>e= .returned (.bool (It.may ⟨4,b,c,v⟩))∧Kept [] w w':=by
 have hk:=hide ((Kept.refl [] w).alloc (.cells #[.int .i64 4,.int .i64 b,.int .i64 c,.int .i64 v] 84))
 by_cases hb:0≤b∧b≤63
 ·skip
  by_cases hc:c=0
  ·skip
   by_cases hr:1≤v∧v≤4095
   ·skip
    have HM:Hid (It.may ⟨4,b,c,v⟩=true):=hide ((may_iff4 _ _ _ _).2 (by omega));have HB:=hide hb;have HR:=hide hr;subst hc;go_enter Tryz.func103,Tryz.ntmps103;go_wp2_with fail;refine(base.within_yes b 0 63 _ HB.out).mono ?_;rintro e w1 ⟨rfl,rfl⟩;go_wp2_with fail;refine(base.within_yes v 1 4095 _ HR.out).mono ?_;rintro e w2 ⟨rfl,rfl⟩;go_wp2;go_ret;exact⟨by rw[HM.out];rfl,hk.out⟩
   ·skip
    have HM:Hid (It.may ⟨4,b,c,v⟩=false):=hide ((may_no4 _ _ _ _).2 (by omega));have HB:=hide hb;have HR:=hide hr;clear hr;subst hc;go_enter Tryz.func103,Tryz.ntmps103;go_wp2_with fail;refine(base.within_yes b 0 63 _ HB.out).mono ?_;rintro e w1 ⟨rfl,rfl⟩;go_wp2_with fail;refine(base.within_no v 1 4095 _ HR.out).mono ?_;rintro e w2 ⟨rfl,rfl⟩;go_wp2;go_ret;exact⟨by rw[HM.out];rfl,hk.out⟩
  ·skip
   have HM:Hid (It.may ⟨4,b,c,v⟩=false):=hide ((may_no4 _ _ _ _).2 (by omega));have HB:=hide hb;have he:(c==0)=false:=beq_eq_false_iff_ne.2 hc;clear hc;go_enter Tryz.func103,Tryz.ntmps103;go_wp2_with fail;refine(base.within_yes b 0 63 _ HB.out).mono ?_;rintro e w1 ⟨rfl,rfl⟩;go_wp2;go_ret;exact⟨by rw[HM.out];rfl,hk.out⟩
 ·skip
  have HM:Hid (It.may ⟨4,b,c,v⟩=false):=hide ((may_no4 _ _ _ _).2 (by omega));have HB:=hide hb;clear hb;go_enter Tryz.func103,Tryz.ntmps103;go_wp2_with fail;refine(base.within_no b 0 63 _ HB.out).mono ?_;rintro e w1 ⟨rfl,rfl⟩;go_wp2;go_ret;exact⟨by rw[HM.out];rfl,hk.out⟩

theorem rmay_5 (b c v:Int)(w:World):
  Calls Tryz.prog 103 #[.agg #[.int .i64 5,.int .i64 b,.int .i64 c,.int .i64 v]] w fun e w'=>e= .returned (.bool (It.may ⟨5,b,c,v⟩))∧Kept [] w w':=by
 have hk:=hide ((Kept.refl [] w).alloc (.cells #[.int .i64 5,.int .i64 b,.int .i64 c,.int .i64 v] 84))
 by_cases hb:0≤b∧b≤63
 ·skip
  by_cases hc:c=0
  ·skip
   by_cases hv:v=0
   ·skip
    have HM:Hid (It.may ⟨5,b,c,v⟩=true):=hide ((may_iff4 _ _ _ _).2 (by omega));have HB:=hide hb;subst hc;subst hv;go_enter Tryz.func103,Tryz.ntmps103;go_wp2_with fail;refine(base.within_yes b 0 63 _ HB.out).mono ?_;rintro e w1 ⟨rfl,rfl⟩;go_wp2;go_ret;exact⟨by rw[HM.out];rfl,hk.out⟩
   ·skip
    have HM:Hid (It.may ⟨5,b,c,v⟩=false):=hide ((may_no4 _ _ _ _).2 (by omega));have HB:=hide hb;have he:(v==0)=false:=beq_eq_false_iff_ne.2 hv;clear hv;subst hc;go_enter Tryz.func103,Tryz.ntmps103;go_wp2_with fail;refine(base.within_yes b 0 63 _ HB.out).mono ?_;rintro e w1 ⟨rfl,rfl⟩;go_wp2;go_ret;exact⟨by rw[HM.out];rfl,hk.out⟩
  ·skip
   have HM:Hid (It.may ⟨5,b,c,v⟩=false):=hide ((may_no4 _ _ _ _).2 (by omega));have HB:=hide hb;have he:(c==0)=false:=beq_eq_false_iff_ne.2 hc;clear hc;go_enter Tryz.func103,Tryz.ntmps103;go_wp2_with fail;refine(base.within_yes b 0 63 _ HB.out).mono ?_;rintro e w1 ⟨rfl,rfl⟩;go_wp2;go_ret;exact⟨by rw[HM.out];rfl,hk.out⟩
 ·skip
  have HM:Hid (It.may ⟨5,b,c,v⟩=false):=hide ((may_no4 _ _ _ _).2 (by omega));have HB:=hide hb;clear hb;go_enter Tryz.func103,Tryz.ntmps103;go_wp2_with fail;refine(base.within_no b 0 63 _ HB.out).mono ?_;rintro e w1 ⟨rfl,rfl⟩;go_wp2;go_ret;exact⟨by rw[HM.out];rfl,hk.out⟩

theorem rmay_6 (b c v:Int)(w:World):
  Calls Tryz.prog 103 #[.agg #[.int .i64 6,.int .i64 b,.int .i64 c,.int .i64 v]] w fun e w'=>e= .returned (.bool (It.may ⟨6,b,c,v⟩))∧Kept [] w w':=by
 have hk:=hide ((Kept.refl [] w).alloc (.cells #[.int .i64 6,.int .i64 b,.int .i64 c,.int .i64 v] 84))
 by_cases hb:0≤b∧b≤63
 ·skip
  by_cases hr:1≤c∧c≤(64-b)
  ·skip
   by_cases hv:v=0
   ·skip
    have HM:Hid (It.may ⟨6,b,c,v⟩=true):=hide ((may_iff4 _ _ _ _).2 (by omega));have HB:=hide hb;have HR:=hide hr;subst hv;go_enter Tryz.func103,Tryz.ntmps103;go_wp2_with fail;refine(base.within_yes b 0 63 _ HB.out).mono ?_;rintro e w1 ⟨rfl,rfl⟩;go_wp2_with fail;refine(base.within_yes c 1 (64-b) _ HR.out).mono ?_;rintro e w2 ⟨rfl,rfl⟩;go_wp2;go_ret;exact⟨by rw[HM.out];rfl,hk.out⟩
   ·skip
    have HM:Hid (It.may ⟨6,b,c,v⟩=false):=hide ((may_no4 _ _ _ _).2 (by omega));have HB:=hide hb;have HR:=hide hr;have he:(v==0)=false:=beq_eq_false_iff_ne.2 hv;clear hv;go_enter Tryz.func103,Tryz.ntmps103;go_wp2_with fail;refine(base.within_yes b 0 63 _ HB.out).mono ?_;rintro e w1 ⟨rfl,rfl⟩;go_wp2_with fail;refine(base.within_yes c 1 (64-b) _ HR.out).mono ?_;rintro e w2 ⟨rfl,rfl⟩;go_wp2;go_ret;exact⟨by rw[HM.out];rfl,hk.out⟩
  ·skip
   have HM:Hid (It.may ⟨6,b,c,v⟩=false):=hide ((may_no4 _ _ _ _).2 (by omega));have HB:=hide hb;have HR:=hide hr;clear hr;go_enter Tryz.func103,Tryz.ntmps103;go_wp2_with fail;refine(base.within_yes b 0 63 _ HB.out).mono ?_;rintro e w1 ⟨rfl,rfl⟩;go_wp2_with fail;refine(base.within_no c 1 (64-b) _ HR.out).mono ?_;rintro e w2 ⟨rfl,rfl⟩;go_wp2;go_ret;exact⟨by rw[HM.out];rfl,hk.out⟩
 ·skip
  have HM:Hid (It.may ⟨6,b,c,v⟩=false):=hide ((may_no4 _ _ _ _).2 (by omega));have HB:=hide hb;clear hb;go_enter Tryz.func103,Tryz.ntmps103;go_wp2_with fail;refine(base.within_no b 0 63 _ HB.out).mono ?_;rintro e w1 ⟨rfl,rfl⟩;go_wp2;go_ret;exact⟨by rw[HM.out];rfl,hk.out⟩

theorem rmay_7 (b c v:Int)(w:World):
  Calls Tryz.prog 103 #[.agg #[.int .i64 7,.int .i64 b,.int .i64 c,.int .i64 v]] w fun e w'=>e= .returned (.bool (It.may ⟨7,b,c,v⟩))∧Kept [] w w':=by
 have hk:=hide ((Kept.refl [] w).alloc (.cells #[.int .i64 7,.int .i64 b,.int .i64 c,.int .i64 v] 84))
 by_cases hb:b=0
 ·skip
  by_cases hc:c=0
  ·skip
   by_cases hr:0≤v∧v≤31
   ·skip
    have HM:Hid (It.may ⟨7,b,c,v⟩=true):=hide ((may_iff4 _ _ _ _).2 (by omega));have HR:=hide hr;subst hb;subst hc;go_enter Tryz.func103,Tryz.ntmps103;go_wp2_with fail;refine(within_ex _ 0 63 _).mono ?_;rintro e w1 ⟨q,rfl,rfl⟩;go_wp2_with fail;refine(base.within_yes v 0 31 _ HR.out).mono ?_;rintro e w2 ⟨rfl,rfl⟩;go_wp2;go_ret;exact⟨by rw[HM.out];rfl,hk.out⟩
   ·skip
    have HM:Hid (It.may ⟨7,b,c,v⟩=false):=hide ((may_no4 _ _ _ _).2 (by omega));have HR:=hide hr;clear hr;subst hb;subst hc;go_enter Tryz.func103,Tryz.ntmps103;go_wp2_with fail;refine(within_ex _ 0 63 _).mono ?_;rintro e w1 ⟨q,rfl,rfl⟩;go_wp2_with fail;refine(base.within_no v 0 31 _ HR.out).mono ?_;rintro e w2 ⟨rfl,rfl⟩;go_wp2;go_ret;exact⟨by rw[HM.out];rfl,hk.out⟩
  ·skip
   have HM:Hid (It.may ⟨7,b,c,v⟩=false):=hide ((may_no4 _ _ _ _).2 (by omega));have he:(c==0)=false:=beq_eq_false_iff_ne.2 hc;clear hc;subst hb;go_enter Tryz.func103,Tryz.ntmps103;go_wp2_with fail;refine(within_ex _ 0 63 _).mono ?_;rintro e w1 ⟨q,rfl,rfl⟩;go_wp2;go_ret;exact⟨by rw[HM.out];rfl,hk.out⟩
 ·skip
  have HM:Hid (It.may ⟨7,b,c,v⟩=false):=hide ((may_no4 _ _ _ _).2 (by omega));have he:(b==0)=false:=beq_eq_false_iff_ne.2 hb;clear hb;go_enter Tryz.func103,Tryz.ntmps103;go_wp2_with fail;refine(within_ex _ 0 63 _).mono ?_;rintro e w1 ⟨q,rfl,rfl⟩;go_wp2;go_ret;exact⟨by rw[HM.out];rfl,hk.out⟩

theorem rmay_0 (k b c v:Int)(w:World)(h:k≠1∧k≠2∧k≠3∧k≠4∧k≠5∧k≠6∧k≠7):
  Calls Tryz.prog 103 #[.agg #[.int .i64 k,.int .i64 b,.int .i64 c,.int .i64 v]] w fun e w'=>e= .returned (.bool (It.may ⟨k,b,c,v⟩))∧Kept [] w w':=by
 have hk:=hide ((Kept.refl [] w).alloc (.cells #[.int .i64 k,.int .i64 b,.int .i64 c,.int .i64 v] 84));have HM:Hid (It.may ⟨k,b,c,v⟩=false):=hide ((may_no4 _ _ _ _).2 (by omega));have k1:(k==1)=false:=beq_eq_false_iff_ne.2 (by omega);have k2:(k==2)=false:=beq_eq_false_iff_ne.2 (by omega);have k3:(k==3)=false:=beq_eq_false_iff_ne.2 (by omega);have k4:(k==4)=false:=beq_eq_false_iff_ne.2 (by omega);have k5:(k==5)=false:=beq_eq_false_iff_ne.2 (by omega);have k6:(k==6)=false:=beq_eq_false_iff_ne.2 (by omega);have k7:(k==7)=false:=beq_eq_false_iff_ne.2 (by omega);clear h;go_enter Tryz.func103,Tryz.ntmps103;go_wp2_with fail;refine(within_ex b 0 63 _).mono ?_;rintro e w1 ⟨q,rfl,rfl⟩;go_wp2;go_ret;exact⟨by rw[HM.out];rfl,hk.out⟩

theorem rmay_any (i:It)(w:World):
  Calls Tryz.prog 103 #[i.val] w fun e w'=>e= .returned (.bool i.may)∧Kept [] w w':=by
 obtain⟨k,b,c,v⟩:=i;unfold It.val
 by_cases h1:k=1
 ·subst h1;exact rmay_1 b c v w
 by_cases h2:k=2
 ·subst h2;exact rmay_2 b c v w
 by_cases h3:k=3
 ·subst h3;exact rmay_3 b c v w
 by_cases h4:k=4
 ·subst h4;exact rmay_4 b c v w
 by_cases h5:k=5
 ·subst h5;exact rmay_5 b c v w
 by_cases h6:k=6
 ·subst h6;exact rmay_6 b c v w
 by_cases h7:k=7
 ·subst h7;exact rmay_7 b c v w
 exact rmay_0 k b c v w ⟨h1,h2,h3,h4,h5,h6,h7⟩

theorem loaded_any (i:It)(w:World):
  Calls Tryz.prog 160 #[i.val] w fun e w'=>e= .returned (.bool i.loaded)∧Kept [] w w':=by
 have hk:=hide ((Kept.refl [] w).alloc (.cells #[.int .i64 i.k,.int .i64 i.b,.int .i64 i.c,.int .i64 i.v] 84));obtain⟨k,b,c,v⟩:=i;unfold It.val;unfold It.loaded;dsimp only at hk ⊢
 by_cases h1:k=1
 ·subst h1;go_enter Tryz.func160,Tryz.ntmps160;go_wp2_with fail;refine(may_any ⟨1,b,c,v⟩ _).mono ?_;rintro e w1 ⟨rfl,hk1⟩;have HK1:=hide (hk.out.trans hk1 (by simp));clear hk1;go_wp2;go_ret;exact⟨by simp,HK1.out⟩
 by_cases h4:k=4
 ·subst h4;go_enter Tryz.func160,Tryz.ntmps160;go_wp2_with fail;refine(may_any ⟨4,b,c,v⟩ _).mono ?_;rintro e w1 ⟨rfl,hk1⟩;have HK1:=hide (hk.out.trans hk1 (by simp));clear hk1;go_wp2;go_ret;exact⟨by simp,HK1.out⟩
 by_cases h5:k=5
 ·subst h5;go_enter Tryz.func160,Tryz.ntmps160;go_wp2_with fail;refine(may_any ⟨5,b,c,v⟩ _).mono ?_;rintro e w1 ⟨rfl,hk1⟩;have HK1:=hide (hk.out.trans hk1 (by simp));clear hk1;go_wp2;go_ret;exact⟨by simp,HK1.out⟩
 have k1:(k==1)=false:=beq_eq_false_iff_ne.2 h1;have k4:(k==4)=false:=beq_eq_false_iff_ne.2 h4;have k5:(k==5)=false:=beq_eq_false_iff_ne.2 h5;have HM:Hid (decide (k=1∨k=4∨k=5)=false):=hide (decide_eq_false (by omega));clear h1 h4 h5;go_enter Tryz.func160,Tryz.ntmps160;go_wp2;go_ret;exact⟨by rw[HM.out,Bool.and_false];rfl,hk.out⟩

theorem rloaded_any (i:It)(w:World):
  Calls Tryz.prog 98 #[i.val] w fun e w'=>e= .returned (.bool i.loaded)∧Kept [] w w':=by
 have hk:=hide ((Kept.refl [] w).alloc (.cells #[.int .i64 i.k,.int .i64 i.b,.int .i64 i.c,.int .i64 i.v] 84));have hb:=hide (Blk.new w 84 #[.int .i64 i.k,.int .i64 i.b,.int .i64 i.c,.int .i64 i.v]);have HM:Hid (i.loaded=(i.may&&decide (i.k=1∨i.k=4∨i.k=5))):=hide rfl;obtain⟨q,hq⟩:∃ q,i.may=q:=⟨_,rfl⟩;rw[hq]at HM;have HQ:=hide hq;clear hq;obtain⟨k,b,c,v⟩:=i;unfold It.val;dsimp only at hk hb HM ⊢;cases q
 ·skip
  go_enter Tryz.func98,Tryz.ntmps98;go_wp2_with fail;refine(rmay_any ⟨k,b,c,v⟩ _).mono ?_;rintro e w1 ⟨rfl,hk1⟩;rw[HQ.out];have HK1:=hide (hk.out.trans hk1 (by simp));have hb1:=hk1.blk hb.out (by simp);have f0:=hb1.cell 0;clear hk1 hb1;go_wp2;go_ret;exact⟨by rw[HM.out];simp,HK1.out⟩
 ·skip
  by_cases h1:k=1
  ·subst h1;go_enter Tryz.func98,Tryz.ntmps98;go_wp2_with fail;refine(rmay_any ⟨1,b,c,v⟩ _).mono ?_;rintro e w1 ⟨rfl,hk1⟩;rw[HQ.out];have HK1:=hide (hk.out.trans hk1 (by simp));have hb1:=hk1.blk hb.out (by simp);have f0:=hb1.cell 0;clear hk1 hb1;go_wp2;go_ret;exact⟨by rw[HM.out];simp,HK1.out⟩
  by_cases h4:k=4
  ·subst h4;go_enter Tryz.func98,Tryz.ntmps98;go_wp2_with fail;refine(rmay_any ⟨4,b,c,v⟩ _).mono ?_;rintro e w1 ⟨rfl,hk1⟩;rw[HQ.out];have HK1:=hide (hk.out.trans hk1 (by simp));have hb1:=hk1.blk hb.out (by simp);have f0:=hb1.cell 0;clear hk1 hb1;go_wp2;go_ret;exact⟨by rw[HM.out];simp,HK1.out⟩
  by_cases h5:k=5
  ·subst h5;go_enter Tryz.func98,Tryz.ntmps98;go_wp2_with fail;refine(rmay_any ⟨5,b,c,v⟩ _).mono ?_;rintro e w1 ⟨rfl,hk1⟩;rw[HQ.out];have HK1:=hide (hk.out.trans hk1 (by simp));have hb1:=hk1.blk hb.out (by simp);have f0:=hb1.cell 0;clear hk1 hb1;go_wp2;go_ret;exact⟨by rw[HM.out];simp,HK1.out⟩
  have k1:(k==1)=false:=beq_eq_false_iff_ne.2 h1;have k4:(k==4)=false:=beq_eq_false_iff_ne.2 h4;have k5:(k==5)=false:=beq_eq_false_iff_ne.2 h5;have HD:Hid (decide (k=1∨k=4∨k=5)=false):=hide (decide_eq_false (by omega));clear h1 h4 h5;go_enter Tryz.func98,Tryz.ntmps98;go_wp2_with fail;refine(rmay_any ⟨k,b,c,v⟩ _).mono ?_;rintro e w1 ⟨rfl,hk1⟩;rw[HQ.out];have HK1:=hide (hk.out.trans hk1 (by simp));have hb1:=hk1.blk hb.out (by simp);have f0:=hb1.cell 0;clear hk1 hb1;go_wp2;go_ret;exact⟨by rw[HM.out,HD.out];rfl,HK1.out⟩
end Go.Proofs.YtjkmahmoclobmaaGreat.item
