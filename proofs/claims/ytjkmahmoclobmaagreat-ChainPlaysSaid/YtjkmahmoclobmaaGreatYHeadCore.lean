import Derived.Test.YtjkmahmoclobmaaGreatYShapes
import Derived.Test.YtjkmahmoclobmaaGreatYAlike
import Derived.Test.YtjkmahmoclobmaaGreatYCrcCore
import Derived.Test.YtjkmahmoclobmaaGreatYFar
import Derived.Test.YtjkmahmoclobmaaGreatYBytesEq
set_option maxRecDepth 100000
set_option maxHeartbeats 1000000
namespace Go.Proofs.YtjkmahmoclobmaaGreat.hd
open Go.RowKit mem row rowBack fill crc crcMath
open super (sumOf sumOf_len fits1 fits4 sum_fits r0 take2)
structure Hd where
 (g m l v:Int)
deriving DecidableEq
def Hd.zero:Hd:=⟨0,0,0,0⟩
def Hd.may (H:Hd):Bool:=decide (0≤H.g∧H.g≤31)&&(decide (1≤H.m∧H.m≤2147483647)&&(decide (1≤H.l∧H.l≤2147483647)&&decide (0≤H.v∧H.v≤4294967295)))
theorem Hd.may_iff (H:Hd):H.may=true↔(0≤H.g∧H.g≤31)∧(1≤H.m∧H.m≤2147483647)∧(1≤H.l∧H.l≤2147483647)∧(0≤H.v∧H.v≤4294967295):=by
 simp only[Hd.may,Bool.and_eq_true,decide_eq_true_eq]
def Hd.head (H:Hd):List UInt8:=([75,72]++bytesOf 1 [H.g])++bytesOf 4 [H.m,H.l,H.v]
theorem Hd.head_len (H:Hd):H.head.length=15:=by simp [Hd.head,bytesOf_length]
def Hd.body (H:Hd):List UInt8:=H.head++List.replicate 45 0
theorem Hd.body_len (H:Hd):H.body.length=60:=by simp [Hd.body,Hd.head_len]
def Hd.bytes (H:Hd):List UInt8:=H.body++sumOf H.body
theorem Hd.bytes_len (H:Hd):H.bytes.length=64:=by simp [Hd.bytes,Hd.body_len,sumOf_len]
def r1 (bs:List UInt8):Row:=((r0 bs).get 1).2.2
def r2 (bs:List UInt8):Row:=((r1 bs).get 4).2.2
def r3 (bs:List UInt8):Row:=((r2 bs).get 4).2.2
def readOf (bs:List UInt8):Hd:=⟨((r0 bs).get 1).1,((r1 bs).get 4).1,((r2 bs).get 4).1,((r3 bs).get 4).1⟩

theorem read_bytes (H:Hd)(h:H.may=true):readOf H.bytes=H:=by
 obtain⟨hg,hm,hl,hv⟩:=(H.may_iff).1 h;obtain⟨g,m,l,v⟩:=H;simp only at hg hm hl hv;have f1:=fits1 g (by omega) (by omega);have f2:=fits4 m (by omega) (by omega);have f3:=fits4 l (by omega) (by omega);have f4:=fits4 v (by omega) (by omega);generalize hb:Hd.bytes ⟨g,m,l,v⟩=bs
 obtain⟨z,hz⟩:∃ z,bs=[75,72]++(bytesOf 1 [g]++(bytesOf 4 [m]++(bytesOf 4 [l]++(bytesOf 4 [v]++z)))):=
  ⟨List.replicate 45 0++sumOf (Hd.body ⟨g,m,l,v⟩),by
   rw[←hb];simp only[Hd.bytes,Hd.body,Hd.head];rw[bytesOf_cons 4 (by omega) m [l,v],bytesOf_cons 4 (by omega) l [v]]
   simp only[List.append_assoc,List.cons_append,List.nil_append]⟩
 have l1:∀ n:Int,(bytesOf 1 [n]).length=1:=fun n=>by simp [bytesOf_length]
 have l4:∀ n:Int,(bytesOf 4 [n]).length=4:=fun n=>by simp [bytesOf_length]
 have e0:r0 bs=⟨bs,2⟩:=take2 bs (by rw[hz];simp)
 have g1:Row.get ⟨bs,2⟩ 1=(g,true,⟨bs,3⟩):=by
  have:=get_here [75,72] (bytesOf 4 [m]++(bytesOf 4 [l]++(bytesOf 4 [v]++z))) 1 2 g (by simp) f1 rfl
  rw[←hz]at this;exact this
 have g2:Row.get ⟨bs,3⟩ 4=(m,true,⟨bs,7⟩):=by
  have:=get_here ([75,72]++bytesOf 1 [g]) (bytesOf 4 [l]++(bytesOf 4 [v]++z)) 4 3 m (by simp) f2 (by simp [l1])
  rw[List.append_assoc,←hz]at this;exact this
 have g3:Row.get ⟨bs,7⟩ 4=(l,true,⟨bs,11⟩):=by
  have:=get_here ([75,72]++bytesOf 1 [g]++bytesOf 4 [m]) (bytesOf 4 [v]++z) 4 7 l (by simp) f3 (by simp [l1,l4])
  simp only[List.append_assoc]at this;rw[←hz]at this;exact this
 have g4:Row.get ⟨bs,11⟩ 4=(v,true,⟨bs,15⟩):=by
  have:=get_here ([75,72]++bytesOf 1 [g]++bytesOf 4 [m]++bytesOf 4 [l]) z 4 11 v (by simp) f4 (by simp [l1,l4])
  simp only[List.append_assoc]at this;rw[←hz]at this;exact this
 have e1:r1 bs=⟨bs,3⟩:=by unfold r1;rw[e0,g1]
 have e2:r2 bs=⟨bs,7⟩:=by unfold r2;rw[e1,g2]
 have e3:r3 bs=⟨bs,11⟩:=by unfold r3;rw[e2,g3]
 unfold readOf;rw[e0,e1,e2,e3,g1,g2,g3,g4]
def encode (H:Hd):List UInt8×Int:=if H.may=true then(H.bytes,0)else([],1)
def decode (bs:List UInt8):Hd×Int:=if (readOf bs).may=true∧(readOf bs).bytes=bs then(readOf bs,0)else(Hd.zero,2)
theorem decode_bytes (H:Hd)(h:H.may=true):decode H.bytes=(H,0):=by
 unfold decode;rw[read_bytes H h,if_pos ⟨h,rfl⟩]
theorem decode_or (bs:List UInt8):(∃ H:Hd,H.may=true∧H.bytes=bs∧decode bs=(H,0))∨decode bs=(Hd.zero,2):=by
 by_cases h:(readOf bs).may=true∧(readOf bs).bytes=bs
 ·exact .inl ⟨readOf bs,h.1,h.2,if_pos h⟩
 ·exact .inr (if_neg h)
theorem decode_no (bs:List UInt8)(h:∀ H:Hd,H.may=true→H.bytes≠bs):decode bs=(Hd.zero,2):=by
 rcases decode_or bs with⟨H,h1,h2,_⟩|h3
 ·exact absurd h2 (h H h1)
 ·exact h3
theorem bytes_start (H:Hd):H.bytes[0]? = some 75∧H.bytes[1]? = some 72:=by
 simp only[Hd.bytes,Hd.body,Hd.head,List.append_assoc,List.cons_append];exact⟨rfl,rfl⟩
theorem decode_start (bs:List UInt8)(h:bs[0]? ≠ some 75):decode bs=(Hd.zero,2):=
 decode_no bs fun H _ e=>h (by rw[←e];exact(bytes_start H).1)
def fits (bs:List UInt8)(s l v m:Int):Bool:=decide ((decode bs).2=0)&&(decide ((decode bs).1.g=s)&&(decide ((decode bs).1.l=l)&&(decide ((decode bs).1.v=v)&&decide (m≤(decode bs).1.m))))
theorem fits_bytes (H:Hd)(h:H.may=true)(s l v m:Int):fits H.bytes s l v m=(decide (H.g=s)&&(decide (H.l=l)&&(decide (H.v=v)&&decide (m≤H.m)))):=by
 unfold fits;rw[decode_bytes H h]
 rfl
end Go.Proofs.YtjkmahmoclobmaaGreat.hd
namespace Go.Proofs.YtjkmahmoclobmaaGreat.hd
open Go.RowKit mem base
theorem between (n a b:Int)(w:World):
  Calls Tryz.prog 220 #[.int .i64 n,.int .i64 a,.int .i64 b] w fun e w'=>e= .returned (.bool (decide (a≤n)&&decide (n≤b)))∧w=w':=by
 by_cases h:a≤n
 ·go_enter Tryz.func220,Tryz.ntmps220;go_wp2;go_ret;exact⟨by simp [h],rfl⟩
 ·go_enter Tryz.func220,Tryz.ntmps220;go_wp2;go_ret;exact⟨by rw[show decide (a≤n)=false from decide_eq_false (by omega)];rfl,rfl⟩
theorem between_yes (n a b:Int)(w:World)(h:a≤n∧n≤b):
  Calls Tryz.prog 220 #[.int .i64 n,.int .i64 a,.int .i64 b] w fun e w'=>e= .returned (.bool true)∧w=w':=
 (between n a b w).mono fun e w' ⟨he,hw⟩=>⟨by rw[he];simp [h.1,h.2],hw⟩
theorem between_no (n a b:Int)(w:World)(h:¬(a≤n∧n≤b)):
  Calls Tryz.prog 220 #[.int .i64 n,.int .i64 a,.int .i64 b] w fun e w'=>e= .returned (.bool false)∧w=w':=
 (between n a b w).mono fun e w' ⟨he,hw⟩=>⟨by rw[he];congr 2;rw[←Bool.not_eq_true,Bool.and_eq_true,decide_eq_true_iff,decide_eq_true_iff];omega,hw⟩
def Hd.val (H:Hd):Value:= .agg #[.int .i64 H.g,.int .i64 H.m,.int .i64 H.l,.int .i64 H.v]
def Hd.cells (H:Hd):Array Value:=#[.int .i64 H.g,.int .i64 H.m,.int .i64 H.l,.int .i64 H.v]
theorem Hd.cell_at {w:World}{g:Nat}{t:TypeId}{H:Hd}(h:Blk w g t H.cells):w.cell? ⟨g,0,none⟩=some (.int .i64 H.g)∧w.cell? ⟨g,1,none⟩=some (.int .i64 H.m)∧w.cell? ⟨g,2,none⟩=some (.int .i64 H.l)∧w.cell? ⟨g,3,none⟩=some (.int .i64 H.v):=
 ⟨h.cell 0,h.cell 1,h.cell 2,h.cell 3⟩
def put4 (w:World)(g:Nat)(a b c d:Int):World:=(((w.setCell ⟨g,0,none⟩ (.int .i64 a)).setCell ⟨g,1,none⟩ (.int .i64 b)).setCell ⟨g,2,none⟩ (.int .i64 c)).setCell ⟨g,3,none⟩ (.int .i64 d)
theorem Hd.put_at {w:World}{g:Nat}{t:TypeId}{H:Hd}(a b c d:Int)(h:Blk w g t H.cells):Blk (put4 w g a b c d) g t (Hd.cells ⟨a,b,c,d⟩):=
 (((h.set_ 0 (.int .i64 a)).set_ 1 (.int .i64 b)).set_ 2 (.int .i64 c)).set_ 3 (.int .i64 d)
theorem Hd.put_kept {v w:World}{g:Nat}{S:List Nat}(a b c d:Int)(h:Kept S v w)(hg:g∈S∨v.heap.size≤g):Kept S v (put4 w g a b c d):=
 (((h.set_ hg 0 (.int .i64 a)).set_ hg 1 (.int .i64 b)).set_ hg 2 (.int .i64 c)).set_ hg 3 (.int .i64 d)
theorem put4_eq (w:World)(g:Nat)(a b c d:Int):(((w.setCell ⟨g,0,none⟩ (.int .i64 a)).setCell ⟨g,1,none⟩ (.int .i64 b)).setCell ⟨g,2,none⟩ (.int .i64 c)).setCell ⟨g,3,none⟩ (.int .i64 d)=put4 w g a b c d:=rfl

theorem may_any (H:Hd)(w:World):
  Calls Tryz.prog 199 #[H.val] w fun e w'=>e= .returned (.bool H.may)∧Kept [] w w':=by
 have hk:=(Kept.refl [] w).alloc (.cells H.cells 127);unfold Hd.val
 by_cases h0:0≤H.g∧H.g≤31
 ·skip
  by_cases h1:1≤H.m∧H.m≤2147483647
  ·skip
   by_cases h2:1≤H.l∧H.l≤2147483647
   ·skip
    by_cases h3:0≤H.v∧H.v≤4294967295
    ·skip
     go_enter Tryz.func199,Tryz.ntmps199;go_wp2_with fail;refine(between_yes H.g 0 31 _ h0).mono ?_;rintro e w1 ⟨rfl,rfl⟩;go_wp2_with fail;refine(between_yes H.m 1 2147483647 _ h1).mono ?_;rintro e w2 ⟨rfl,rfl⟩;go_wp2_with fail;refine(between_yes H.l 1 2147483647 _ h2).mono ?_;rintro e w3 ⟨rfl,rfl⟩;go_wp2_with fail;refine(between_yes H.v 0 4294967295 _ h3).mono ?_;rintro e w4 ⟨rfl,rfl⟩;go_wp2;go_ret;exact⟨by simp [Hd.may,h0,h1,h2,h3],hk⟩
    ·skip
     go_enter Tryz.func199,Tryz.ntmps199;go_wp2_with fail;refine(between_yes H.g 0 31 _ h0).mono ?_;rintro e w1 ⟨rfl,rfl⟩;go_wp2_with fail;refine(between_yes H.m 1 2147483647 _ h1).mono ?_;rintro e w2 ⟨rfl,rfl⟩;go_wp2_with fail;refine(between_yes H.l 1 2147483647 _ h2).mono ?_;rintro e w3 ⟨rfl,rfl⟩;go_wp2_with fail;refine(between_no H.v 0 4294967295 _ h3).mono ?_;rintro e w4 ⟨rfl,rfl⟩;go_wp2;go_ret;exact⟨by simp [Hd.may,h0,h1,h2,h3],hk⟩
   ·skip
    go_enter Tryz.func199,Tryz.ntmps199;go_wp2_with fail;refine(between_yes H.g 0 31 _ h0).mono ?_;rintro e w1 ⟨rfl,rfl⟩;go_wp2_with fail;refine(between_yes H.m 1 2147483647 _ h1).mono ?_;rintro e w2 ⟨rfl,rfl⟩;go_wp2_with fail;refine(between_no H.l 1 2147483647 _ h2).mono ?_;rintro e w3 ⟨rfl,rfl⟩;go_wp2;go_ret;exact⟨by simp [Hd.may,h0,h1,h2],hk⟩
  ·skip
   go_enter Tryz.func199,Tryz.ntmps199;go_wp2_with fail;refine(between_yes H.g 0 31 _ h0).mono ?_;rintro e w1 ⟨rfl,rfl⟩;go_wp2_with fail;refine(between_no H.m 1 2147483647 _ h1).mono ?_;rintro e w2 ⟨rfl,rfl⟩;go_wp2;go_ret;exact⟨by simp [Hd.may,h0,h1],hk⟩
 ·skip
  go_enter Tryz.func199,Tryz.ntmps199;go_wp2_with fail;refine(between_no H.g 0 31 _ h0).mono ?_;rintro e w1 ⟨rfl,rfl⟩;go_wp2;go_ret;exact⟨by simp [Hd.may,h0],hk⟩

theorem rmay_any (H:Hd)(w:World):
  Calls Tryz.prog 128 #[H.val] w fun e w'=>e= .returned (.bool H.may)∧Kept [] w w':=by
 have hk:=(Kept.refl [] w).alloc (.cells H.cells 127);unfold Hd.val
 by_cases h0:0≤H.g∧H.g≤31
 ·skip
  by_cases h1:1≤H.m∧H.m≤2147483647
  ·skip
   by_cases h2:1≤H.l∧H.l≤2147483647
   ·skip
    by_cases h3:0≤H.v∧H.v≤4294967295
    ·skip
     go_enter Tryz.func128,Tryz.ntmps128;go_wp2_with fail;refine(base.within_yes H.g 0 31 _ h0).mono ?_;rintro e w1 ⟨rfl,rfl⟩;go_wp2_with fail;refine(base.within_yes H.m 1 2147483647 _ h1).mono ?_;rintro e w2 ⟨rfl,rfl⟩;go_wp2_with fail;refine(base.within_yes H.l 1 2147483647 _ h2).mono ?_;rintro e w3 ⟨rfl,rfl⟩;go_wp2_with fail;refine(base.within_yes H.v 0 4294967295 _ h3).mono ?_;rintro e w4 ⟨rfl,rfl⟩;go_wp2;go_ret;exact⟨by simp [Hd.may,h0,h1,h2,h3],hk⟩
    ·skip
     go_enter Tryz.func128,Tryz.ntmps128;go_wp2_with fail;refine(base.within_yes H.g 0 31 _ h0).mono ?_;rintro e w1 ⟨rfl,rfl⟩;go_wp2_with fail;refine(base.within_yes H.m 1 2147483647 _ h1).mono ?_;rintro e w2 ⟨rfl,rfl⟩;go_wp2_with fail;refine(base.within_yes H.l 1 2147483647 _ h2).mono ?_;rintro e w3 ⟨rfl,rfl⟩;go_wp2_with fail;refine(base.within_no H.v 0 4294967295 _ h3).mono ?_;rintro e w4 ⟨rfl,rfl⟩;go_wp2;go_ret;exact⟨by simp [Hd.may,h0,h1,h2,h3],hk⟩
   ·skip
    go_enter Tryz.func128,Tryz.ntmps128;go_wp2_with fail;refine(base.within_yes H.g 0 31 _ h0).mono ?_;rintro e w1 ⟨rfl,rfl⟩;go_wp2_with fail;refine(base.within_yes H.m 1 2147483647 _ h1).mono ?_;rintro e w2 ⟨rfl,rfl⟩;go_wp2_with fail;refine(base.within_no H.l 1 2147483647 _ h2).mono ?_;rintro e w3 ⟨rfl,rfl⟩;go_wp2;go_ret;exact⟨by simp [Hd.may,h0,h1,h2],hk⟩
  ·skip
   go_enter Tryz.func128,Tryz.ntmps128;go_wp2_with fail;refine(base.within_yes H.g 0 31 _ h0).mono ?_;rintro e w1 ⟨rfl,rfl⟩;go_wp2_with fail;refine(base.within_no H.m 1 2147483647 _ h1).mono ?_;rintro e w2 ⟨rfl,rfl⟩;go_wp2;go_ret;exact⟨by simp [Hd.may,h0,h1],hk⟩
 ·skip
  go_enter Tryz.func128,Tryz.ntmps128;go_wp2_with fail;refine(base.within_no H.g 0 31 _ h0).mono ?_;rintro e w1 ⟨rfl,rfl⟩;go_wp2;go_ret;exact⟨by simp [Hd.may,h0],hk⟩
end Go.Proofs.YtjkmahmoclobmaaGreat.hd
namespace Go.Proofs.YtjkmahmoclobmaaGreat.hd
open Go.RowKit mem base row rowBack fill crc crcMath
open super (sumOf sumOf_len fits1 fits4 sum_fits)
theorem row_new (n m:Nat)(h:m=n):(⟨List.replicate m 0,0⟩:Row)=rowF n []:=by rw[h];exact rowF_nil n

theorem seal_any (P:Option Addr)(n c:Nat)(bs:List UInt8)(w:World)(hv:Vals w [] P (bs.map B))(hl:bs.length=n)(hn:n≤1000):
  Calls Tryz.prog 204 #[.slice P n c] w fun e w'=>∃ A c',e= .returned (.slice A (n+4) c')∧NewBytes w w' A c' (bs++sumOf bs)∧Kept [] w w':=by
 have HV:=hide hv;have HL:=hide hl;clear hv hl;have g1:IntKind.i64.wrap ((n:Int)+4)=(n:Int)+4:=IntWalk.i64_in _ (by omega);go_enter Tryz.func204,Tryz.ntmps204;go_wp2_with fail;refine(new_at ((n:Int)+4) _ (by omega) (by omega)).mono ?_;rintro e w1 ⟨p,b,cap,A,rfl,hp,hb,hb1,hr,hk⟩;rw[row_new (n+4) _ (by omega)]at hr;have HR:=hide hr;have hp1:=hr.lt;have HK:=hide hk;clear hr hk;go_wp2_with fail;refine(lay_len p b cap A _ P bs n c _ HL.out HR.out (HV.out.far HK.out (by simp;omega))).mono ?_;rintro e w2 ⟨rfl,hr2,hk2⟩;rw[rowF_lay (n+4) [] bs (by have:=HL.out;simp;omega)]at*;have HR2:=hide hr2;have HK2:=hide (HK.out.trans hk2 (by simp;omega));have hs2:=hk2.size;clear hr2 hk2;go_wp2_with fail;refine(sum_any (some ⟨w2.heap.size,0,none⟩) 1 1 [bs] _ (parts_one _ _ 41 P n c bs (Blk.new w2 _ _) HL.out (by omega) (HV.out.kept (HK2.out.alloc _) (by simp))) rfl (by omega)).mono ?_;rintro e w3 ⟨rfl,rfl⟩;have HK3:=hide (HK2.out.alloc (.cells #[.slice P n c] 41));have HR3:=hide (HR2.out.kept (S:=[]) ((Kept.refl _ w2).alloc (.cells #[.slice P n c] 41)) (by simp) (by simp))
 have hs3:w2.heap.size<(w2.alloc (.cells #[.slice P n c] 41)).heap.size:=by simp
 generalize w2.alloc (.cells #[.slice P n c] 41)=w3 at*;rw[show [bs].flatten=bs by simp];go_wp2_with fail;refine(put_len p b cap A _ 4 (some ⟨w3.heap.size,0,none⟩) [(more 0 bs:Int)] 1 1 _ rfl (HR3.out.kept (S:=[]) ((Kept.refl _ w3).alloc _) (by simp) (by simp)) (base.vals_one w3 [p,b] _ _ (by simp;omega)) (by omega)).mono ?_;rintro e w4 ⟨rfl,hr4,hk4⟩;rw[show((4:Int))=((4:Nat):Int)by rfl,rowF_put (n+4) ([]++bs) 4 _ rfl (by simpa using sum_fits bs) (by have:=HL.out;simp;omega)]at*;have HR4:=hide hr4;have HK4:=hide (HK3.out.trans (((Kept.refl _ w3).alloc (.cells #[.int .i64 (more 0 bs:Int)] 3)).trans hk4 (fun i hi=> .inl hi)) (by simp;omega));clear hr4 hk4;have hf:(rowF (n+4) ([]++bs++bytesOf 4 [(more 0 bs:Int)])).bs=bs++sumOf bs:=rowF_full _ _ (by have:=HL.out;simp [bytesOf_length];omega);go_wp2_with fail;refine(bytes_at p b cap A _ _ HR4.out).mono ?_;rintro e w5 ⟨A5,c5,rfl,hn5,hk5⟩;rw[hf]at*;rw[show(bs++sumOf bs).length=n+4 by rw[List.length_append,HL.out,sumOf_len]];have HK5:=hide (HK4.out.trans hk5 (by simp));have HN5:=hide (hn5.mono HK4.out.size);clear hn5 hk5 hf;go_wp2;go_ret;exact⟨A5,c5,rfl,HN5.out,HK5.out⟩

theorem numbers_one (H:Hd)(w:World):
  Calls Tryz.prog 203 #[H.val,.int .i64 1] w fun e w'=>∃ A c,e= .returned (.slice A 1 c)∧(∀ S:List Nat,(∀ i∈S,i<w.heap.size)→Vals w' S A ([H.g].map I))∧Kept [] w w':=by
 have HK:=hide ((Kept.refl [] w).alloc (.cells H.cells 127))
 have hs:w.heap.size<(w.alloc (.cells H.cells 127)).heap.size:=by simp
 have hv:=fun (S:List Nat) (hS:∀ i∈S,i<w.heap.size)=>Vals.lit (w.alloc (.cells H.cells 127)) S 3 #[.int .i64 H.g] (0,0) ([H.g].map I) rfl (fun i hi=>Nat.lt_trans (hS i hi) hs);rw[show(w.alloc (.cells H.cells 127)).heap.size=w.heap.size+1 by simp]at hv;have HV:=hide hv;clear hs hv;unfold Hd.val;go_enter Tryz.func203,Tryz.ntmps203;go_wp2;go_ret;exact⟨_,_,rfl,HV.out,HK.out.alloc _⟩

theorem numbers_four (H:Hd)(w:World):
  Calls Tryz.prog 203 #[H.val,.int .i64 4] w fun e w'=>∃ A c,e= .returned (.slice A 3 c)∧(∀ S:List Nat,(∀ i∈S,i<w.heap.size)→Vals w' S A ([H.m,H.l,H.v].map I))∧Kept [] w w':=by
 have HK:=hide ((Kept.refl [] w).alloc (.cells H.cells 127))
 have hs:w.heap.size<(w.alloc (.cells H.cells 127)).heap.size:=by simp
 have hv:=fun (S:List Nat) (hS:∀ i∈S,i<w.heap.size)=>Vals.lit (w.alloc (.cells H.cells 127)) S 3 #[.int .i64 H.m,.int .i64 H.l,.int .i64 H.v] (0,0) ([H.m,H.l,H.v].map I) rfl (fun i hi=>Nat.lt_trans (hS i hi) hs);rw[show(w.alloc (.cells H.cells 127)).heap.size=w.heap.size+1 by simp]at hv;have HV:=hide hv;clear hs hv;unfold Hd.val;go_enter Tryz.func203,Tryz.ntmps203;go_wp2;go_ret;exact⟨_,_,rfl,HV.out,HK.out.alloc _⟩

theorem encode_no (H:Hd)(w:World)(h:H.may=false):
  Calls Tryz.prog 166 #[H.val] w fun e w'=>e= .returned (.tuple #[.slice none 0 0,.int .i64 1])∧Kept [] w w':=by
 have HK:=hide ((Kept.refl [] w).alloc (.cells H.cells 127));unfold Hd.val;go_enter Tryz.func166,Tryz.ntmps166;go_wp2_with fail;refine(may_any H _).mono ?_;rintro e w1 ⟨rfl,hk⟩;rw[h];have HK1:=hide (HK.out.trans hk (by simp));clear hk;go_wp2;go_ret2;exact⟨rfl,HK1.out⟩

theorem fits_small (H:Hd)(h:H.may=true):(∀ m∈[H.g],fitsW (1:Nat) m=true)∧(∀ m∈[H.m,H.l,H.v],fitsW (4:Nat) m=true):=by
 obtain⟨hg,hm,hl,hv⟩:=(H.may_iff).1 h;refine⟨fun m hx=> ?_,fun m hx=> ?_⟩
 ·simp only[List.mem_cons,List.not_mem_nil,or_false]at hx;subst hx;exact fits1 _ (by omega) (by omega)
 ·simp only[List.mem_cons,List.not_mem_nil,or_false]at hx
  rcases hx with rfl|rfl|rfl<;>exact fits4 _ (by omega) (by omega)

theorem pick0 (w:World):(Instr.index 278 (.agg #[.int .i64 1,.int .i64 4]) (.int .i64 0)).run Tryz.prog w= .ok (.int .i64 1) w:=by kernel_rfl
theorem pick1 (w:World):(Instr.index 278 (.agg #[.int .i64 1,.int .i64 4]) (.int .i64 1)).run Tryz.prog w= .ok (.int .i64 4) w:=by kernel_rfl

theorem encode_yes (H:Hd)(w:World)(h:H.may=true):
  Calls Tryz.prog 166 #[H.val] w fun e w'=>∃ A c',e= .returned (.tuple #[.slice A 64 c',.int .i64 0])∧NewBytes w w' A c' H.bytes∧Kept [] w w':=by
 have HB:=hide (Blk.new w 127 H.cells);have HK:=hide ((Kept.refl [] w).alloc (.cells H.cells 127));have HF:=hide (fits_small H h);have i0:=pick0;have i1:=pick1;unfold Hd.val;go_enter Tryz.func166,Tryz.ntmps166;go_wp2_with fail;refine(may_any H _).mono ?_;rintro e w1 ⟨rfl,hk⟩;rw[h];have HB1:=hide (hk.blk HB.out (by simp));have HK1:=hide (HK.out.trans hk (by simp));clear hk;have hb1:=HB1.out.lt;obtain⟨g,hg⟩:∃ g,w.heap.size=g:=⟨_,rfl⟩;have hg2:=HK1.out.size;rw[hg]at HB HB1 hb1 hg2 ⊢;clear HB HK;go_wp2_with fail;refine(new_at 60 _ (by omega) (by omega)).mono ?_;rintro e w2 ⟨p,b,cap,A,rfl,hp,hb,hb2,hr,hk⟩;rw[row_new 60 _ (by rfl)]at hr;have hp2:=hr.lt;have HR2:=hide hr;have HB2:=hide (hk.blk HB1.out (by simp));have HK2:=hide (HK1.out.trans hk (by simp));clear hr hk;have hcv:=Go.Joins.run_convert_bytes_const_at (P:=Tryz.prog) w2 41 5 #[.int .u8 75,.int .u8 72] 2 2 w2.heap.size rfl Tryz.underlying41 Tryz.underlying5;go_wp2_with fail;refine(lay_len p b cap A _ (some ⟨w2.heap.size,0,none⟩) [75,72] 2 2 _ rfl (HR2.out.kept (S:=[]) ((Kept.refl _ w2).alloc _) (by simp) (by simp)) (Vals.lit w2 [p,b] _ _ _ ([75,72].map B) rfl (by simp;omega))).mono ?_;rintro e w3 ⟨rfl,hr,hk⟩;rw[rowF_lay 60 [] [75,72] (by simp)]at*;have HR3:=hide hr;have HB3:=hide (Kept.lit_blk _ hk HB2.out (by simp;omega));have HK3:=hide (HK2.out.lit _ hk (by simp;omega));have HBL3:Hid (b<w3.heap.size):=hide (by have:=hk.size;simp at this;omega)
 have hgp:g<p:=by omega
 have hgb:g<b:=by omega
 have hpw:w.heap.size≤p:=by omega
 have hbw:w.heap.size≤b:=by omega
 clear hr hk hcv HR2 HB2 HK2 hg hp hb hb2 hp2 hb1 hg2 HB1 HK1;go_wp2_with fail
 go_loopw [16] (fun i wr=>Hid (Kept [] w wr)∧Hid (b<wr.heap.size)∧
   ((i= .int .i64 0∧Hid (Blk wr g 127 H.cells)∧Hid (RowAt wr p b cap A (rowF 60 ([]++[75,72]))))∨
    (i= .int .i64 1∧Hid (Blk wr g 127 H.cells)∧Hid (RowAt wr p b cap A (rowF 60 (([]++[75,72])++bytesOf 1 [H.g]))))∨
    (i= .int .i64 2∧Hid (RowAt wr p b cap A (rowF 60 H.head))))) (fun i wr=>2-(intOf i).toNat)
 case atStart=>exact⟨HK3,HBL3,.inl ⟨rfl,HB3,HR3⟩⟩
 case round=>
  clear HK3 HB3 HR3 HBL3;obtain⟨HK,HBL,⟨rfl,HB,HR⟩|⟨rfl,HB,HR⟩|⟨rfl,HR⟩⟩:=hrel
  ·obtain⟨c0,c1,c2,c3⟩:=Hd.cell_at HB.out;have hpl:=HR.out.lt;have hbl:=HBL.out;go_wp2_with fail;refine(numbers_one H _).mono ?_;rintro e w4 ⟨A4,c4,rfl,hv,hk⟩;have hv4:=hv [p,b] (by simp;omega);have HB4:=hide (hk.blk HB.out (by simp));have HR4:=hide (HR.out.kept hk (by simp) (by simp));have HK4:=hide (HK.out.trans hk (by simp));have HV4:=hide hv4
   have HBL4:b<w4.heap.size:=by have:=hk.size;omega
   clear hv hk hv4 HB HR HK c0 c1 c2 c3;go_wp2_with fail;refine(put_len p b cap A _ 1 A4 [H.g] 1 c4 _ rfl HR4.out HV4.out (by omega)).mono ?_;rintro e w5 ⟨rfl,hr,hk⟩;rw[show((1:Int))=((1:Nat):Int)by rfl,rowF_put 60 _ 1 _ rfl HF.out.1 (by simp)]at*;have HR5:=hide hr;have HB5:=hide (hk.blk HB4.out (by simp;omega));have HK5:=hide (HK4.out.trans hk (by simp;omega));have HBL5:Hid (b<w5.heap.size):=hide (by have:=hk.size;omega);clear hr hk HR4 HB4 HK4 HV4 HBL4;go_wp2;exact⟨⟨HK5,HBL5,.inr<| .inl ⟨rfl,HB5,HR5⟩⟩,by simp [intOf]⟩
  ·obtain⟨c0,c1,c2,c3⟩:=Hd.cell_at HB.out;have hpl:=HR.out.lt;have hbl:=HBL.out;go_wp2_with fail;refine(numbers_four H _).mono ?_;rintro e w4 ⟨A4,c4,rfl,hv,hk⟩;have hv4:=hv [p,b] (by simp;omega);have HR4:=hide (HR.out.kept hk (by simp) (by simp));have HK4:=hide (HK.out.trans hk (by simp));have HV4:=hide hv4
   have HBL4:b<w4.heap.size:=by have:=hk.size;omega
   clear hv hk hv4 HB HR HK c0 c1 c2 c3;go_wp2_with fail;refine(put_len p b cap A _ 4 A4 [H.m,H.l,H.v] 3 c4 _ rfl HR4.out HV4.out (by omega)).mono ?_;rintro e w5 ⟨rfl,hr,hk⟩;rw[show((4:Int))=((4:Nat):Int)by rfl,rowF_put 60 _ 4 _ rfl HF.out.2 (by simp [bytesOf_length])]at*;have HR5:Hid (RowAt w5 p b cap A (rowF 60 H.head)):=hide hr;have HK5:=hide (HK4.out.trans hk (by simp;omega));have HBL5:Hid (b<w5.heap.size):=hide (by have:=hk.size;omega);clear hr hk HR4 HK4 HV4 HBL4;go_wp2;exact⟨⟨HK5,HBL5,.inr<| .inr ⟨rfl,HR5⟩⟩,by simp [intOf]⟩
  ·go_wp2_with fail;refine(bytes_at p b cap A _ _ HR.out).mono ?_;rintro e w6 ⟨A6,c6,rfl,hn6,hk6⟩
   have hb:(rowF 60 H.head).bs=H.body:=by
    show H.head++List.replicate (60-H.head.length) 0=H.body;rw[H.head_len]
    rfl
   rw[hb]at*;rw[H.body_len];have HN6:=hide (hn6.vals (S:=[]) (by simp));have HK6:=hide (HK.out.trans hk6 (by simp));clear hn6 hk6 hb HK HR;go_wp2_with fail;refine(seal_any A6 60 c6 H.body _ HN6.out H.body_len (by omega)).mono ?_;rintro e w7 ⟨A7,c7,rfl,hn7,hk7⟩;have HN7:=hide (hn7.mono HK6.out.size);have HK7:=hide (HK6.out.trans hk7 (by simp));clear hn7 hk7;go_wp2;go_ret2;exact⟨A7,c7,rfl,HN7.out,HK7.out⟩

theorem encode_any (H:Hd)(w:World):
  Calls Tryz.prog 166 #[H.val] w fun e w'=>∃ A n c',e= .returned (.tuple #[.slice A n c',.int .i64 (encode H).2])∧n=(encode H).1.length∧NewBytes w w' A c' (encode H).1∧Kept [] w w':=by
 by_cases h:H.may=true
 ·have e:encode H=(H.bytes,0):=if_pos h;rw[e]
  exact(encode_yes H w h).mono fun _ _ ⟨A,c,h1,h2,h3⟩=>⟨A,64,c,h1,H.bytes_len.symm,h2,h3⟩
 ·have e:encode H=([],1):=if_neg h;rw[e]
  exact(encode_no H w ((Bool.not_eq_true _).mp h)).mono fun _ _ ⟨h1,h3⟩=>⟨none,0,0,h1,rfl,.inl ⟨rfl,rfl,rfl⟩,h3⟩
end Go.Proofs.YtjkmahmoclobmaaGreat.hd
namespace Go.Proofs.YtjkmahmoclobmaaGreat.hd
open Go.RowKit mem base row rowBack fill crc crcMath
open super (r0 take2)
theorem hget_any (p b cap:Nat)(A:Option Addr)(R R':Row)(x y:Int)(w:World)(h:RowAt w p b cap A R)(hR:(R.get x).2.2=R')(hy:(R.get x).1=y):
  Calls Tryz.prog 240 #[.pointer (some ⟨p,0,none⟩),.int .i64 x] w fun e w'=>e= .returned (.int .i64 y)∧RowAt w' p b cap A R'∧Kept [p] w w':=by
 have H:=hide h;have HY:=hide hy;have HRR:=hide hR;clear h hy hR;go_enter Tryz.func240,Tryz.ntmps240;go_wp2_with fail;refine(row.get_at p b cap A R x _ H.out).mono ?_;rintro e w1 ⟨rfl,hr,hk⟩;rw[HRR.out]at hr;rw[HY.out];have HR:=hide hr;have HK:=hide hk;clear hr hk;go_wp2;go_ret;exact⟨rfl,HR.out,HK.out⟩

theorem readOf_g (bs:List UInt8):((r0 bs).get 1).1=(readOf bs).g:=by simp only[readOf]
theorem readOf_m (bs:List UInt8):((r1 bs).get 4).1=(readOf bs).m:=by simp only[readOf]
theorem readOf_l (bs:List UInt8):((r2 bs).get 4).1=(readOf bs).l:=by simp only[readOf]
theorem readOf_v (bs:List UInt8):((r3 bs).get 4).1=(readOf bs).v:=by simp only[readOf]
theorem r1_eq (bs:List UInt8):((r0 bs).get 1).2.2=r1 bs:=by simp only[r1]
theorem r2_eq (bs:List UInt8):((r1 bs).get 4).2.2=r2 bs:=by simp only[r2]
theorem r3_eq (bs:List UInt8):((r2 bs).get 4).2.2=r3 bs:=by simp only[r3]

theorem read_any (A:Option Addr)(n c:Nat)(bs:List UInt8)(w:World)(hv:Vals w [] A (bs.map B))(hl:bs.length=n)(hA:A=none→c=0)(hn:n≤65536):
  Calls Tryz.prog 230 #[.slice A n c] w fun e w'=>e= .returned (readOf bs).val∧Kept [] w w':=by
 have HV:=hide hv;have HA:=hide hA;subst hl;clear hv hA;have HB0:=hide (Blk.new w 127 Hd.zero.cells);have HK0:=hide ((Kept.refl [] w).alloc (.cells Hd.zero.cells 127));go_enter Tryz.func230,Tryz.ntmps230;go_wp2_with fail;refine(from_at A c bs _ (HV.out.kept HK0.out (by simp)) HA.out hn).mono ?_;rintro e w1 ⟨p,b,cap,A',rfl,hp,hb,hb1,hr,hk⟩;have HR1:=hide hr;have HK1:=hide (HK0.out.trans hk (by simp));have HB1:=hide (hk.blk HB0.out (by simp));obtain⟨g,hg⟩:∃ g,w.heap.size=g:=⟨_,rfl⟩
 have hpg:g<p:=by simp at hp;omega
 have hbg:g<b:=by simp at hb;omega
 have HG:Hid (w.heap.size≤g):=hide (Nat.le_of_eq hg);clear hr hk hp hb HB0 HK0;rw[hg]at HB1 ⊢;go_wp2_with fail;refine(take_at p b cap A' _ 2 _ HR1.out).mono ?_;rintro e w2 ⟨A2,c2,rfl,_,hr,hk⟩;have HR2:Hid (RowAt w2 p b cap A' (r0 bs)):=hide hr;have HK2:=hide (HK1.out.trans hk (by simp;omega));have HB2:=hide (hk.blk HB1.out (by simp;omega));clear hr hk HR1 HK1 HB1;go_wp2_with fail;refine(hget_any p b cap A' _ (r1 bs) 1 (readOf bs).g _ HR2.out (r1_eq bs) (readOf_g bs)).mono ?_;rintro e w3 ⟨rfl,hr,hk⟩;have HR3:=hide hr;have HK3:=hide (HK2.out.trans hk (by simp;omega));have HB3:=hide (hk.blk HB2.out (by simp;omega));clear hr hk HR2 HK2 HB2;go_wp2_with fail;refine(hget_any p b cap A' _ (r2 bs) 4 (readOf bs).m _ HR3.out (r2_eq bs) (readOf_m bs)).mono ?_;rintro e w4 ⟨rfl,hr,hk⟩;have HR4:=hide hr;have HK4:=hide (HK3.out.trans hk (by simp;omega));have HB4:=hide (hk.blk HB3.out (by simp;omega));clear hr hk HR3 HK3 HB3;go_wp2_with fail;refine(hget_any p b cap A' _ (r3 bs) 4 (readOf bs).l _ HR4.out (r3_eq bs) (readOf_l bs)).mono ?_;rintro e w5 ⟨rfl,hr,hk⟩;have HR5:=hide hr;have HK5:=hide (HK4.out.trans hk (by simp;omega));have HB5:=hide (hk.blk HB4.out (by simp;omega));clear hr hk HR4 HK4 HB4;go_wp2_with fail;refine(hget_any p b cap A' _ (_) 4 (readOf bs).v _ HR5.out (rfl) (readOf_v bs)).mono ?_;rintro e w6 ⟨rfl,hr,hk⟩;have HR6:=hide hr;have HK6:=hide (HK5.out.trans hk (by simp;omega));have HB6:=hide (hk.blk HB5.out (by simp;omega));clear hr hk HR5 HK5 HB5;obtain⟨u,hu⟩:∃ u:Hd,readOf bs=u:=⟨_,rfl⟩
 rw[hu];have HU:=hide hu;clear hu;have f0:=HB6.out.frozen 0;have f1:=HB6.out.frozen 1;have f2:=HB6.out.frozen 2;have f3:=HB6.out.frozen 3;obtain⟨d0,d1,d2,d3⟩:=Hd.cell_at HB6.out;have hbw:=hide (Hd.put_at u.g u.m u.l u.v HB6.out);have hkw:=hide (Hd.put_kept (S:=[]) u.g u.m u.l u.v HK6.out (.inr HG.out));go_wp2;rw[put4_eq];generalize put4 w6 g u.g u.m u.l u.v=W at hbw hkw ⊢;obtain⟨t0,t1,t2,t3⟩:=Hd.cell_at hbw.out;refine bodyPost_ret (v:=u.val) (by simp [results,Tryz.results230,go_sem,t0,t1,t2,t3,Hd.val]) rfl ⟨by rw[HU.out],hkw.out⟩

theorem decode_any (A:Option Addr)(n c:Nat)(bs:List UInt8)(w:World)(hv:Vals w [] A (bs.map B))(hl:bs.length=n)(hA:A=none→c=0)(hn:n≤65536):
  Calls Tryz.prog 213 #[.slice A n c] w fun e w'=>e= .returned (.tuple #[(decode bs).1.val,.int .i64 (decode bs).2])∧Kept [] w w':=by
 have HV:=hide hv;have HA:=hide hA;have HL:=hide hl;clear hv hA hl;obtain⟨u,hu⟩:∃ u:Hd,readOf bs=u:=⟨_,rfl⟩;have HU:=hide hu;clear hu;have hb0:Blk (w.alloc (.cells Hd.zero.cells 127)) w.heap.size 127 Hd.zero.cells:=Blk.new w _ _;have hk0:Kept [] w (w.alloc (.cells Hd.zero.cells 127)):=(Kept.refl [] w).alloc _;have hlt:=hb0.lt;obtain⟨g,hg⟩:∃ g,w.heap.size=g:=⟨_,rfl⟩;have HG:Hid (w.heap.size≤g):=hide (Nat.le_of_eq hg);go_enter Tryz.func213,Tryz.ntmps213;rw[hg]at hb0 hlt;have HB0:=hide hb0;have HK0:=hide hk0;clear hb0 hk0;go_wp2_with fail;refine(read_any A n c bs _ (HV.out.kept HK0.out (by simp)) HL.out HA.out hn).mono ?_;rintro e w1 ⟨rfl,hk⟩;rw[HU.out];unfold Hd.val;have HK1:=hide (HK0.out.trans hk (by simp));have HB1:=hide (hk.blk HB0.out (by simp));clear hk HK0 HB0;have hb2:Blk (w1.alloc (.cells u.cells 127)) w1.heap.size 127 u.cells:=Blk.new w1 _ _;have HK2:=hide (HK1.out.alloc (.cells u.cells 127));have HB2:=hide (HB1.out.alloc (.cells u.cells 127));have hgl:=HB1.out.lt;obtain⟨s,hs⟩:∃ s,w1.heap.size=s:=⟨_,rfl⟩;rw[hs]at hb2 hgl;have HS2:=hide hb2;clear hb2 HK1 HB1;go_wp2_with fail;refine(encode_any u _).mono ?_;rintro e w3 ⟨A3,n3,c3,rfl,hn3,hnb,hk⟩;have HK3:=hide (HK2.out.trans hk (by simp));have HB3:=hide (hk.blk HB2.out (by simp));have HS3:=hide (hk.blk HS2.out (by simp));have HN3:=hide (hnb.vals (S:=[]) (by simp));have HV3:=hide (HV.out.kept HK3.out (by simp));clear hk HK2 HB2 HS2 hnb
 have hd:decode bs=if u.may=true∧u.bytes=bs then(u,0)else(Hd.zero,2):=by unfold decode;rw[HU.out]
 by_cases hm:u.may=true
 ·have e1:encode u=(u.bytes,0):=if_pos hm;rw[e1]at HN3 hn3 ⊢;have HN:=hide hn3
  by_cases hq:u.bytes=bs
  ·rw[if_pos ⟨hm,hq⟩]at hd;have HD:=hide hd;clear hd e1 hn3;go_wp2_with fail;refine(bytesEqual_any A3 A n3 n c3 c u.bytes bs _ HN.out.symm HL.out HN3.out HV3.out).mono ?_;rintro e w4 ⟨rfl,rfl⟩;rw[decide_eq_true hq];obtain⟨c0,c1,c2,c3'⟩:=Hd.cell_at HS3.out;have f0:=HB3.out.frozen 0;have f1:=HB3.out.frozen 1;have f2:=HB3.out.frozen 2;have f3:=HB3.out.frozen 3;obtain⟨d0,d1,d2,d3⟩:=Hd.cell_at HB3.out;have hbw:=hide (Hd.put_at u.g u.m u.l u.v HB3.out);have hkw:=hide (Hd.put_kept (S:=[]) u.g u.m u.l u.v HK3.out (.inr HG.out));go_wp2;rw[put4_eq];generalize put4 w3 g u.g u.m u.l u.v=W at hbw hkw ⊢;obtain⟨t0,t1,t2,t3⟩:=Hd.cell_at hbw.out;refine bodyPost_ret (v:= .tuple #[u.val,.int .i64 0]) ?_ rfl ⟨by rw[HD.out],hkw.out⟩
   simp [results,Tryz.results213,go_sem,t0,t1,t2,t3,Hd.val]
  ·rw[if_neg (fun h=>hq h.2)]at hd;have HD:=hide hd;clear hd e1 hn3;go_wp2_with fail;refine(bytesEqual_any A3 A n3 n c3 c u.bytes bs _ HN.out.symm HL.out HN3.out HV3.out).mono ?_;rintro e w4 ⟨rfl,rfl⟩;rw[decide_eq_false hq];have f0:=HB3.out.frozen 0;have f1:=HB3.out.frozen 1;have f2:=HB3.out.frozen 2;have f3:=HB3.out.frozen 3;obtain⟨d0,d1,d2,d3⟩:=Hd.cell_at HB3.out;have hbw:=hide (Hd.put_at 0 0 0 0 HB3.out);have hkw:=hide (Hd.put_kept (S:=[]) 0 0 0 0 HK3.out (.inr HG.out));go_wp2;rw[put4_eq];generalize put4 w3 g 0 0 0 0=W at hbw hkw ⊢;obtain⟨t0,t1,t2,t3⟩:=Hd.cell_at hbw.out;refine bodyPost_ret (v:= .tuple #[Hd.zero.val,.int .i64 2]) ?_ rfl ⟨by rw[HD.out],hkw.out⟩
   simp [results,Tryz.results213,go_sem,t0,t1,t2,t3,Hd.val,Hd.zero]
 ·have e1:encode u=([],1):=if_neg hm;rw[e1]at HN3 hn3 ⊢;rw[if_neg (fun h=>hm h.1)]at hd;have HD:=hide hd;clear hd e1 hn3;have f0:=HB3.out.frozen 0;have f1:=HB3.out.frozen 1;have f2:=HB3.out.frozen 2;have f3:=HB3.out.frozen 3;obtain⟨d0,d1,d2,d3⟩:=Hd.cell_at HB3.out;have hbw:=hide (Hd.put_at 0 0 0 0 HB3.out);have hkw:=hide (Hd.put_kept (S:=[]) 0 0 0 0 HK3.out (.inr HG.out));go_wp2;rw[put4_eq];generalize put4 w3 g 0 0 0 0=W at hbw hkw ⊢;obtain⟨t0,t1,t2,t3⟩:=Hd.cell_at hbw.out;refine bodyPost_ret (v:= .tuple #[Hd.zero.val,.int .i64 2]) ?_ rfl ⟨by rw[HD.out],hkw.out⟩
  simp [results,Tryz.results213,go_sem,t0,t1,t2,t3,Hd.val,Hd.zero]
end Go.Proofs.YtjkmahmoclobmaaGreat.hd
namespace Go.Proofs.YtjkmahmoclobmaaGreat.hd
open Go.RowKit mem base
def posVal (s o l v m:Int):Value:= .agg #[.int .i64 s,.int .i64 o,.int .i64 l,.int .i64 v,.int .i64 m]

theorem fits_any (A:Option Addr)(n c:Nat)(bs:List UInt8)(s o l v m:Int)(w:World)(hv:Vals w [] A (bs.map B))(hl:bs.length=n)(hA:A=none→c=0)(hn:n≤65536):
  Calls Tryz.prog 214 #[.slice A n c,posVal s o l v m] w fun e w'=>e= .returned (.bool (fits bs s l v m))∧Kept [] w w':=by
 have HV:=hide hv;have HL:=hide hl;clear hv hl;obtain⟨u,eu,hu⟩:∃ u eu,decode bs=(u,eu):=⟨_,_,rfl⟩
 have hf:fits bs s l v m=(decide (eu=0)&&(decide (u.g=s)&&(decide (u.l=l)&&(decide (u.v=v)&&decide (m≤u.m))))):=by unfold fits;rw[hu]
 have he:eu=0∨eu=2:=by
  rcases decode_or bs with⟨S,_,_,h3⟩|h3
  ·rw[hu,Prod.mk.injEq]at h3;exact .inl h3.2
  ·rw[hu,Prod.mk.injEq]at h3;exact .inr h3.2
 have HF:=hide hf;have HU:=hide hu;clear hf hu;obtain⟨w1,hw1⟩:∃ w1,w.alloc (.cells #[.int .i64 s,.int .i64 o,.int .i64 l,.int .i64 v,.int .i64 m] 24)=w1:=⟨_,rfl⟩
 have hk1:Kept [] w w1:=by rw[←hw1];exact(Kept.refl [] w).alloc _
 have hb1:Blk w1 w.heap.size 24 #[.int .i64 s,.int .i64 o,.int .i64 l,.int .i64 v,.int .i64 m]:=by rw[←hw1];exact Blk.new w _ _
 obtain⟨g,hg⟩:∃ g,w.heap.size=g:=⟨_,rfl⟩;rw[hg]at hb1;have HB1:=hide hb1;have HK1:=hide hk1;clear hb1 hk1;unfold posVal;go_enter Tryz.func214,Tryz.ntmps214;go_wp2_with fail;refine(decode_any A n c bs _ (HV.out.kept HK1.out (by simp)) HL.out hA hn).mono ?_;rintro e w2 ⟨rfl,hk⟩;rw[HU.out];have hb2:=hk.blk HB1.out (by simp);have HK2:=hide (HK1.out.trans hk (by simp));clear hk HK1 HB1 hw1;obtain⟨w3,hw3⟩:∃ w3,w2.alloc (.cells u.cells 127)=w3:=⟨_,rfl⟩
 have hk3:Kept [] w2 w3:=by rw[←hw3];exact(Kept.refl [] w2).alloc _
 have hs3:Blk w3 w2.heap.size 127 u.cells:=by rw[←hw3];exact Blk.new w2 _ _
 obtain⟨q,hq⟩:∃ q,w2.heap.size=q:=⟨_,rfl⟩;rw[hq]at hs3;have HK3:=hide (HK2.out.trans hk3 (by simp));have hb3:=hk3.blk hb2 (by simp);have p0:w3.cell? ⟨g,0,none⟩=some (.int .i64 s):=hb3.cell 0;have p2:w3.cell? ⟨g,2,none⟩=some (.int .i64 l):=hb3.cell 2;have p3:w3.cell? ⟨g,3,none⟩=some (.int .i64 v):=hb3.cell 3;have p4:w3.cell? ⟨g,4,none⟩=some (.int .i64 m):=hb3.cell 4;obtain⟨d0,d1,d2,d3⟩:=Hd.cell_at hs3;clear hk3 hs3 hb2 hb3 HK2;unfold Hd.val;unfold Hd.cells at hw3
 rcases he with rfl|rfl
 ·by_cases h0:u.g=s
  ·subst h0
   by_cases h1:u.l=l
   ·subst h1
    by_cases h2:u.v=v
    ·subst h2
     by_cases h3:m≤u.m
     ·skip
      go_wp2;go_ret;exact⟨by rw[HF.out];simp [h3],HK3.out⟩
     ·have h3':u.m<m:=by omega
      go_wp2;go_ret;exact⟨by rw[HF.out];simp,HK3.out⟩
    ·have h2':(u.v==v)=false:=beq_eq_false_iff_ne.2 h2;have H2:=hide h2;clear h2;go_wp2;go_ret;exact⟨by rw[HF.out];simp [H2.out],HK3.out⟩
   ·have h1':(u.l==l)=false:=beq_eq_false_iff_ne.2 h1;have H1:=hide h1;clear h1;go_wp2;go_ret;exact⟨by rw[HF.out];simp [H1.out],HK3.out⟩
  ·have h0':(u.g==s)=false:=beq_eq_false_iff_ne.2 h0;have H0:=hide h0;clear h0;go_wp2;go_ret;exact⟨by rw[HF.out];simp [H0.out],HK3.out⟩
 ·skip
  go_wp2;go_ret;exact⟨by rw[HF.out];simp,HK3.out⟩
end Go.Proofs.YtjkmahmoclobmaaGreat.hd
