import Derived.Test.YtjkmahmoclobmaaGreatYAlike
import Derived.Deep.MidRow
import Derived.Deep.WholeRow
import Derived.Laws.Cover3
import Derived.StillTailTactics
import Derived.Laws.CopyRow
set_option linter.unusedSimpArgs false
set_option maxRecDepth 100000
set_option maxHeartbeats 4000000
namespace Go.Proofs.YtjkmahmoclobmaaGreat.disk
open Go.RowKit mem base
def lay {α:Type}(s:List α)(k:Nat)(xs:List α):List α:=s.take k++(xs++s.drop (k+xs.length))
theorem lay_all {α:Type}(s xs:List α)(h:xs.length=s.length):lay s 0 xs=xs:=by simp [lay,h]
theorem lay_length {α:Type}(s:List α)(k:Nat)(xs:List α)(h:k+xs.length≤s.length):(lay s k xs).length=s.length:=by simp [lay];omega
theorem lay_map {α β:Type}(f:α→β)(s:List α)(k:Nat)(xs:List α):(lay s k xs).map f=lay (s.map f) k (xs.map f):=by simp [lay,List.map_take,List.map_drop]
theorem lay_get {α:Type}(s:List α)(k:Nat)(xs:List α)(h:k+xs.length≤s.length)(i:Nat):(lay s k xs)[i]? = if k≤i∧i<k+xs.length then xs[i-k]? else s[i]? := by
 have h1:(s.take k).length=k:=by simp;omega
 unfold lay;rw[List.getElem?_append,h1]
 by_cases hi:i<k
 ·rw[if_pos hi,if_neg (by omega),List.getElem?_take_of_lt hi]
 ·rw[if_neg hi,List.getElem?_append]
  by_cases hj:i-k<xs.length
  ·rw[if_pos hj,if_pos (by omega)]
  ·rw[if_neg hj,if_neg (by omega),List.getElem?_drop]
   congr 1
   omega
def sec {α:Type}(s:List α)(i:Nat):List α:=(s.drop (64*i)).take 64
theorem sec_length {α:Type}(s:List α)(i n:Nat)(h:s.length=64*n)(hi:i<n):(sec s i).length=64:=by simp [sec];omega
theorem sec_get {α:Type}(s:List α)(i j:Nat)(h:j<64):(sec s i)[j]? = s[64*i+j]? := by
 unfold sec;rw[List.getElem?_take_of_lt h,List.getElem?_drop]
theorem sec_get_none {α:Type}(s:List α)(i j:Nat)(h:64≤j):(sec s i)[j]? = none:=by
 unfold sec;rw[List.getElem?_eq_none]
 simp
 omega
theorem sec_map {α β:Type}(f:α→β)(s:List α)(i:Nat):(sec s i).map f=sec (s.map f) i:=by simp [sec,List.map_take,List.map_drop]
theorem sec_lay_same {α:Type}(s:List α)(i n:Nat)(xs:List α)(hs:s.length=64*n)(hi:i<n)(hx:xs.length≤64):sec (lay s (64*i) xs) i=lay (sec s i) 0 xs:=by
 have hl:=sec_length s i n hs hi
 apply List.ext_getElem?
 intro j
 rcases Nat.lt_or_ge j 64 with hj|hj
 ·rw[sec_get _ _ _ hj,lay_get _ _ _ (by omega),lay_get _ _ _ (by omega)]
  by_cases hk:j<xs.length
  ·rw[if_pos (by omega),if_pos (by omega)]
   congr 1
   omega
  ·rw[if_neg (by omega),if_neg (by omega),sec_get _ _ _ hj]
 ·rw[sec_get_none _ _ _ hj,List.getElem?_eq_none];rw[lay_length _ _ _ (by omega)]
  omega
theorem sec_lay_other {α:Type}(s:List α)(i j n:Nat)(xs:List α)(hs:s.length=64*n)(hi:i<n)(hx:xs.length≤64)(hij:i≠j):sec (lay s (64*i) xs) j=sec s j:=by
 apply List.ext_getElem?
 intro k
 rcases Nat.lt_or_ge k 64 with hk|hk
 ·rw[sec_get _ _ _ hk,lay_get _ _ _ (by omega),if_neg (by omega),sec_get _ _ _ hk]
 ·rw[sec_get_none _ _ _ hk,sec_get_none _ _ _ hk]
def Row (w:World)(g:Nat)(t:TypeId)(vs:List Value):Prop:=∃ cs:Array Value,Blk w g t cs∧vs.length≤cs.size∧∀ (i:Nat) (v:Value),vs[i]? = some v→cs[i]? = some v

section
variable {w w':World}{g:Nat}{t:TypeId}{vs:List Value}
theorem Row.lt (h:Row w g t vs):g<w.heap.size:=by obtain⟨_,h,_⟩:=h;exact h.lt
theorem Row.kept {S:List Nat}(h:Row w g t vs)(k:Kept S w w')(hg:g∉S):Row w' g t vs:=by
 obtain⟨cs,h,r⟩:=h;exact⟨cs,k.blk h hg,r⟩
theorem Row.drew (h:Row w g t vs):Row w.drew g t vs:=h
theorem Row.alloc (h:Row w g t vs)(o:Obj):Row (w.alloc o) g t vs:=by
 obtain⟨cs,h,r⟩:=h;exact⟨cs,h.alloc o,r⟩
theorem Row.cell (h:Row w g t vs){i:Nat}{v:Value}(hv:vs[i]? = some v):w.cell? ⟨g,i,none⟩=some v:=by
 obtain⟨cs,h,_,r⟩:=h;rw[h.cell];exact r i v hv
theorem Row.frozen (h:Row w g t vs)(i:Nat):w.frozen? ⟨g,i,none⟩=false:=by
 obtain⟨cs,h,_⟩:=h;exact h.frozen i
theorem Row.set_ (h:Row w g t vs)(i:Nat)(u:Value):Row (w.setCell ⟨g,i,none⟩ u) g t (vs.set i u):=by
 obtain⟨cs,h,hl,r⟩:=h;refine⟨_,h.set_ i u,by simpa using hl,fun j v hv=> ?_⟩;rw[List.getElem?_set]at hv;rw[Array.getElem?_setIfInBounds]
 split at hv
 ·rename_i e
  subst e
  split at hv
  ·rw[if_pos rfl,if_pos (by omega)];exact hv
  ·cases hv
 ·rename_i e
  rw[if_neg e];exact r j v hv
theorem Row.ne_ {g':Nat}{t':TypeId}{vs':List Value}(h:Row w g t vs)(h':Row w g' t' vs')(ht:t≠t'):g≠g':=by
 rintro rfl;obtain⟨cs,h,_⟩:=h;obtain⟨cs',h',_⟩:=h';unfold Blk at h h';rw[h]at h';injection h' with h';injection h' with _ h';exact ht h'
theorem Row.of_blk {cs:Array Value}(h:Blk w g t cs):Row w g t cs.toList:=⟨cs,h,by simp,fun i v hv=>by simpa using hv⟩
theorem Row.vals (h:Row w g t vs){S:List Nat}(hg:g∉S)(k n:Nat):Vals w S (some ⟨g,k,none⟩) ((vs.drop k).take n):=by
 obtain⟨cs,h,_,r⟩:=h;refine Vals.blk k h hg fun i v hv=> ?_
 have hi:i<n:=by have:=(List.getElem?_eq_some_iff.1 hv).1;rw[List.length_take]at this;omega
 rw[List.getElem?_take_of_lt hi,List.getElem?_drop]at hv;exact r _ _ hv
theorem Row.vals0 (h:Row w g t vs){S:List Nat}(hg:g∉S):Vals w S (some ⟨g,0,none⟩) vs:=by
 have:=h.vals hg 0 vs.length
 simpa using this
theorem Row.range (h:Row w g t vs)(k n:Nat):w.rangeAt g k ((vs.drop k).take n):=by
 intro j v hv
 have hi:j<n:=by have:=(List.getElem?_eq_some_iff.1 hv).1;rw[List.length_take]at this;omega
 rw[List.getElem?_take_of_lt hi,List.getElem?_drop]at hv;exact h.cell hv
theorem Row.there (h:Row w g t vs)(k n:Nat)(hk:k+n≤vs.length):w.there g k n:=fun j hj=>
 ⟨by rw[h.cell (List.getElem?_eq_getElem (show k+j<vs.length by omega))];rfl,h.frozen _⟩

theorem blk_setCells (g:Nat)(t:TypeId):∀ (xs:List Value) (o:Nat) (w:World) (cs:Array Value),Blk w g t cs→∃ cs':Array Value,Blk (w.setCells g o xs) g t cs'∧cs'.size=cs.size∧∀ i,i<cs.size→cs'[i]? = if o≤i∧i<o+xs.length then xs[i-o]? else cs[i]?
 | [],o,w,cs,h=>⟨cs,h,rfl,fun i _=>by rw[if_neg (by simp)]⟩
 | x::xs,o,w,cs,h=>by
  obtain⟨cs',h1,h2,h3⟩:=blk_setCells g t xs (o+1) _ _ (h.set_ o x);refine⟨cs',h1,by rw[h2];simp,fun i hi=> ?_⟩;rw[h3 i (by simpa using hi),Array.getElem?_setIfInBounds];simp only[List.length_cons]
  by_cases e:o=i
  ·subst e;rw[if_neg (by omega),if_pos rfl,if_pos hi,if_pos (by omega)]
   simp
  ·by_cases hc:o+1≤i∧i<o+1+xs.length
   ·rw[if_pos hc,if_pos (by omega),show i-o=(i-(o+1))+1 by omega,List.getElem?_cons_succ]
   ·rw[if_neg hc,if_neg e,if_neg (by omega)]
theorem kept_setCells (g:Nat):∀ (xs:List Value) (o:Nat) (a w:World),Kept [g] a w→Kept [g] a (w.setCells g o xs)
 | [],_,_,_,h=>h
 | x::xs,o,a,w,h=>kept_setCells g xs (o+1) a _ (h.set_ (.inl (by simp)) o x)
theorem Row.setCells (h:Row w g t vs)(o:Nat)(xs:List Value)(ho:o+xs.length≤vs.length):Row (w.setCells g o xs) g t (lay vs o xs):=by
 obtain⟨cs,h,hl,r⟩:=h;obtain⟨cs',h1,h2,h3⟩:=blk_setCells g t xs o w cs h;refine⟨cs',h1,by rw[lay_length _ _ _ ho,h2];exact hl,fun i v hv=> ?_⟩
 have hi:i<vs.length:=by have:=(List.getElem?_eq_some_iff.1 hv).1;rw[lay_length _ _ _ ho]at this;exact this
 rw[h3 i (by omega)];rw[lay_get _ _ _ ho]at hv
 split at hv
 ·rename_i hc
  rw[if_pos hc];exact hv
 ·rename_i hc
  rw[if_neg hc];exact r i v hv
end
section
variable {P:Program}{w:World}
theorem wpList_alloc_store {ops:Array Oper}{rest:List Oper}{o o2:Oper}{a:Act}{Q:Exit→Act→World→Prop}(hgd:o.guard=none)(hgd2:o2.guard=none)(ty:TypeId)(x y:Operand)(ho:o.op= .alloc ty)(ho2:o2.op= .store ty x y)
  (xs:List Value) (hz:(P.info? ty).map (fun i=>(i.zero.map fun z=>z.cells.size,i.size))=some (some xs.length,xs.length))
  (hx:∀ v,(a.put o.dst v).eval x=v) (hy:∀ v,(a.put o.dst v).eval y= .agg xs.toArray) (h1:∀ v∈xs,v.oneCell'=true)
  (h:wpList P ops Q rest ((a.put o.dst (.pointer (some ⟨w.heap.size,0,none⟩))).put o2.dst undef) (w.alloc (.cells xs.toArray ty))):wpList P ops Q (o::o2::rest) a w:=by
 obtain⟨i,hi,hzz⟩:=Option.map_eq_some_iff.1 hz;simp only[Prod.mk.injEq]at hzz;obtain⟨hz1,hz2⟩:=hzz;obtain⟨z,hzi,hzc⟩:=Option.map_eq_some_iff.1 hz1;refine wpList_plain hgd fun K hK=> ?_
 have hal:(Instr.alloc ty true (.tuple #[])).run P w= .ok (.pointer (some ⟨w.heap.size,0,none⟩)) (w.alloc (.cells z.cells ty)):=by
  have hzr:(zeroValue ty).run P w= .ok z w:=by simp [zeroValue,typeInfo,hi,hzi]
  simp only[Instr.alloc,Sem.run_bind,hzr,Result.andThen_ok]
  rfl
 unfold Oper.wp;simp only[execOp,ho,hal,Sem.run_bind,Result.andThen_ok,Sem.run_pure];refine hK _ _ ?_;refine wpList_plain hgd2 fun K2 hK2=> ?_;unfold Oper.wp;have hst:=run_storeAt_new (P:=P) w ty z.cells xs.toArray (by rw[hi];simp [hz2]) (by rw[hzc];simp) (all_oneCell_toArray h1);simp only[execOp,ho2,hx,hy,Sem.run_bind,hst,Result.andThen_ok,Sem.run_pure];exact hK2 _ _ h
end
end Go.Proofs.YtjkmahmoclobmaaGreat.disk
namespace Go.Proofs.YtjkmahmoclobmaaGreat.disk
open Go.RowKit mem base
structure Dk where
 safe:List UInt8
 held:List (Nat×List UInt8)
 faults:List Bool
 fuse:Int
 acts:Nat
 off:Bool

def layH (s:List UInt8)(l:List (Nat×List UInt8)):List UInt8:=l.foldl (fun s x=>lay s (64*x.1) x.2) s
def Dk.now (D:Dk):List UInt8:=layH D.safe D.held
def Dk.n (D:Dk):Nat:=D.faults.length

structure Dk.ok (D:Dk):Prop where
 n1:1≤D.n
 n2:D.n≤4096
 safe:D.safe.length=64*D.n
 held:∀ x∈D.held,x.1<D.n∧x.2.length=64
 few:D.held.length≤D.acts
 fuse: -1≤D.fuse

theorem layH_length (n:Nat):∀ (l:List (Nat×List UInt8)) (s:List UInt8),s.length=64*n→(∀ x∈l,x.1<n∧x.2.length=64)→(layH s l).length=64*n
 | [],_,h,_=>h
 | x::l,s,h,hl=>by
  have hx:=hl x (by simp);refine layH_length n l _ ?_ (fun y hy=>hl y (by simp [hy]));rw[lay_length _ _ _ (by omega),h]
theorem Dk.ok.now {D:Dk}(h:D.ok):D.now.length=64*D.n:=layH_length _ _ _ h.safe h.held
theorem layH_snoc (s:List UInt8)(l:List (Nat×List UInt8))(x:Nat×List UInt8):layH s (l++[x])=lay (layH s l) (64*x.1) x.2:=by simp [layH]
theorem layH_take (s:List UInt8)(l:List (Nat×List UInt8))(k:Nat)(hk:k<l.length):layH s (l.take (k+1))=lay (layH s (l.take k)) (64*l[k].1) l[k].2:=by
 rw[List.take_add_one,List.getElem?_eq_getElem hk];exact layH_snoc _ _ _
def lastOf (i:Nat)(c:List UInt8)(l:List (Nat×List UInt8)):List UInt8:=l.foldl (fun c x=>if x.1=i then x.2 else c) c
theorem sec_layH (n i:Nat):∀ (l:List (Nat×List UInt8)) (s:List UInt8),s.length=64*n→(∀ x∈l,x.1<n∧x.2.length=64)→sec (layH s l) i=lastOf i (sec s i) l
 | [],_,_,_=>rfl
 | x::l,s,h,hl=>by
  have hx:=hl x (by simp)
  have h1:(lay s (64*x.1) x.2).length=64*n:=by rw[lay_length _ _ _ (by omega),h]
  have:=sec_layH n i l (lay s (64*x.1) x.2) h1 (fun y hy=>hl y (by simp [hy]))
  show sec (layH (lay s (64*x.1) x.2) l) i=lastOf i (if x.1=i then x.2 else sec s i) l;rw[this]
  congr 1
  split
  ·rename_i e
   subst e;rw[sec_lay_same s _ n _ h hx.1 (by omega),lay_all _ _ (by rw[sec_length s _ n h hx.1];exact hx.2)]
  ·rename_i e
   rw[sec_lay_other s _ _ n _ h hx.1 (by omega) e]
def Dk.tick (D:Dk):Bool:= !D.off&& !(D.fuse==0)
def Dk.ticked (D:Dk):Dk:=if D.tick then {D with acts:=D.acts+1,fuse:=if 0<D.fuse then D.fuse-1 else D.fuse}else {D with acts:=D.acts+1,off:=true}
def Dk.has (D:Dk)(at_:Int):Bool:=decide (0≤at_∧at_<D.n)
def Dk.write (D:Dk)(at_:Int)(b:List UInt8):Int×Dk:=
 if D.has at_&&b.length==64 then(if D.tick then(0,{D.ticked with held:=D.held++[(at_.toNat,b)]})else(3,D.ticked))else(1,D)
def Dk.flush (D:Dk):Int×Dk:=if D.tick then(0,{D.ticked with safe:=D.now,held:=[]})else(3,D.ticked)
def Dk.read (D:Dk)(at_:Int):Int×List UInt8:=
 if !D.has at_ then(1,[])else if D.off then(3,[])else if D.faults.getD at_.toNat false then(4,[])else(0,sec D.now at_.toNat)
def Dk.faulted (D:Dk)(at_:Int)(on:Bool):Int×Dk:=if D.has at_ then(0,{D with faults:=D.faults.set at_.toNat on})else(1,D)
def Dk.new (n:Nat):Dk:=⟨List.replicate (64*n) 0,[],List.replicate n false,-1,0,false⟩

section
variable {D:Dk}
theorem ticked_same:D.ticked.safe=D.safe∧D.ticked.held=D.held∧D.ticked.faults=D.faults∧D.ticked.acts=D.acts+1:=by
 unfold Dk.ticked
 split<;>exact⟨rfl,rfl,rfl,rfl⟩
theorem ticked_n:D.ticked.n=D.n:=by unfold Dk.n;rw[ticked_same.2.2.1]
theorem Dk.ok.ticked (h:D.ok):D.ticked.ok:=by
 obtain⟨h1,h2,h3,h4⟩:= @ticked_same D;refine⟨by rw[ticked_n];exact h.n1,by rw[ticked_n];exact h.n2,by rw[h1,ticked_n];exact h.safe,by rw[h2,ticked_n];exact h.held,by have:=h.few;rw[h2,h4];omega,?_⟩
 have:=h.fuse
 unfold Dk.ticked
 split
 ·show -1≤if 0<D.fuse then D.fuse-1 else D.fuse
  split<;>omega
 ·exact this
theorem Dk.ok.wrote (h:D.ok){at_:Int}{b:List UInt8}(ha:D.has at_=true)(hb:b.length=64):Dk.ok {D.ticked with held:=D.held++[(at_.toNat,b)]}:=by
 have ht:=h.ticked;obtain⟨h1,h2,h3,h4⟩:= @ticked_same D
 have ha':0≤at_∧at_<D.n:=by simpa [Dk.has]using ha
 refine⟨ht.n1,ht.n2,ht.safe,fun x hx=> ?_,?_,ht.fuse⟩
 ·show x.1<D.ticked.n∧_;rw[ticked_n]
  rcases List.mem_append.1 hx with hx|hx
  ·exact h.held x hx
  ·simp at hx;subst hx;exact⟨by show at_.toNat<_;omega,hb⟩
 ·show(D.held++[(at_.toNat,b)]).length≤D.ticked.acts
  have:=h.few
  rw[h4,List.length_append]
  simp
  omega
theorem Dk.ok.flushed (h:D.ok):Dk.ok {D.ticked with safe:=D.now,held:=[]}:=by
 have ht:=h.ticked;refine⟨ht.n1,ht.n2,?_,by simp,by simp,ht.fuse⟩;show D.now.length=64*D.ticked.n;rw[ticked_n];exact h.now
theorem Dk.ok.faulted (h:D.ok)(i:Nat)(on:Bool):Dk.ok {D with faults:=D.faults.set i on}:=by
 have e:(Dk.n {D with faults:=D.faults.set i on})=D.n:=by simp [Dk.n]
 exact⟨by rw[e];exact h.n1,by rw[e];exact h.n2,by rw[e];exact h.safe,by rw[e];exact h.held,h.few,h.fuse⟩
theorem Dk.new_ok (n:Nat)(h1:1≤n)(h2:n≤4096):(Dk.new n).ok:=
 ⟨by simpa [Dk.new,Dk.n]using h1,by simpa [Dk.new,Dk.n]using h2,by simp [Dk.new,Dk.n],by simp [Dk.new],by simp [Dk.new],by simp [Dk.new]⟩
end
def heldCells (l:List (Nat×List UInt8)):List Value:=l.flatMap fun x=>I x.1::x.2.map B
theorem heldCells_snoc (l:List (Nat×List UInt8))(x:Nat×List UInt8):heldCells (l++[x])=heldCells l++(I x.1::x.2.map B):=by simp [heldCells]
theorem heldCells_at (l:List (Nat×List UInt8))(h:∀ x∈l,x.2.length=64)(k:Nat)(hk:k<l.length):((heldCells l).drop (65*k)).take 65=I l[k].1::l[k].2.map B:=by
 induction l generalizing k with
 | nil=>simp at hk
 | cons x l ih=>
  have hx:=h x (by simp)
  have e:heldCells (x::l)=(I x.1::x.2.map B)++heldCells l:=by simp [heldCells]
  rw[e]
  have hl:(I x.1::x.2.map B).length=65:=by simp;omega
  rcases k with _|k
  ·rw[Nat.mul_zero,List.drop_zero,←hl,List.take_left]
   rfl
  ·rw[show 65*(k+1)=(I x.1::x.2.map B).length+65*k by rw[hl];omega,List.drop_append,List.drop_eq_nil_of_le (by omega),List.nil_append,Nat.add_sub_cancel_left];exact ih (fun y hy=>h y (by simp [hy])) k (by simpa using hk)
theorem oneCell_write (a:Nat)(b:List UInt8):∀ v∈(I a::b.map B),v.oneCell'=true:=by
 intro v hv
 rcases List.mem_cons.1 hv with rfl|hv
 ·rfl
 ·exact oneCell_B b v hv
end Go.Proofs.YtjkmahmoclobmaaGreat.disk
namespace Go.Proofs.YtjkmahmoclobmaaGreat.disk
open Go.RowKit mem base
structure VDat (w:World)(p:Nat)(D:Dk)(gs gn gf:Nat)(hA:Option Addr)(cs cn cf hc:Nat)(fv:Int):Prop where
 blk:Blk w p 141 #[.slice (some ⟨gs,0,none⟩) D.n cs,.slice (some ⟨gn,0,none⟩) D.n cn,.slice hA D.held.length hc,.slice (some ⟨gf,0,none⟩) D.n cf,.int .i64 fv,.int .i64 D.acts,.bool D.off]
 safe:Row w gs 224 (D.safe.map B)
 now:Row w gn 224 (D.now.map B)
 ne:gs≠gn
 faults:Row w gf 4 (D.faults.map Value.bool)
 held:w.ownsRow 0 226 65 (.slice hA D.held.length hc) D.held.length (heldCells D.held)
 lo: -1≤fv
 hi:fv<9223372036854775808
 fuse:D.off=false→fv=D.fuse
 cs1:D.n≤cs
 cn1:D.n≤cn
 cf1:D.n≤cf

def feet (p gs gn gf:Nat)(hA:Option Addr):List Nat:=p::gs::gn::gf::(hA.map Addr.block).toList
def VD (w:World)(F:List Nat)(p:Nat)(D:Dk):Prop:=D.ok∧∃ gs gn gf hA cs cn cf hc fv,VDat w p D gs gn gf hA cs cn cf hc fv∧F=feet p gs gn gf hA

theorem own_kept {w w':World}{S:List Nat}{e:TypeId}{size n m c:Nat}{A:Option Addr}{xs:List Value}(h:w.ownsRow 0 e size (.slice A m c) n xs)(k:Kept S w w')(hs:∀ g,A.map Addr.block=some g→g∉S):w'.ownsRow 0 e size (.slice A m c) n xs:=by
 refine⟨h.1,?_⟩
 rcases h.2 with h2|⟨g,cap,cur,hv,hb,hh,r⟩
 ·exact .inl h2
 ·refine .inr ⟨g,cap,cur,hv,hb,?_,r⟩;injection hv with hv;subst hv
  exact(k.block g (Blk.lt (show Blk w g e cur from hh)) (hs g rfl)).trans hh

section
variable {w w':World}{p gs gn gf cs cn cf hc:Nat}{D:Dk}{hA:Option Addr}{fv:Int}{F:List Nat}
theorem VDat.kept {S:List Nat}(h:VDat w p D gs gn gf hA cs cn cf hc fv)(k:Kept S w w')(hs:∀ x∈feet p gs gn gf hA,x∉S):VDat w' p D gs gn gf hA cs cn cf hc fv:=
 ⟨k.blk h.blk (hs _ (by simp [feet])),h.safe.kept k (hs _ (by simp [feet])),h.now.kept k (hs _ (by simp [feet])),h.ne,h.faults.kept k (hs _ (by simp [feet])),own_kept h.held k (fun g hg=>hs _ (by simp [feet,hg])),h.lo,h.hi,h.fuse,h.cs1,h.cn1,h.cf1⟩
theorem VD.kept {S:List Nat}(h:VD w F p D)(k:Kept S w w')(hs:∀ x∈F,x∉S):VD w' F p D:=by
 obtain⟨ho,gs,gn,gf,hA,cs,cn,cf,hc,fv,h,rfl⟩:=h;exact⟨ho,gs,gn,gf,hA,cs,cn,cf,hc,fv,h.kept k hs,rfl⟩
theorem VDat.heldLt (h:VDat w p D gs gn gf hA cs cn cf hc fv){g:Nat}(hg:hA.map Addr.block=some g):g<w.heap.size:=by
 rcases h.held.2 with⟨h2,_⟩|⟨g',cap,cur,hv,hb,hh,r⟩
 ·injection h2 with h2;subst h2;cases hg
 ·injection hv with hv;subst hv;injection hg with hg;subst hg;exact Blk.lt (show Blk w g' _ cur from hh)
theorem VD.lt (h:VD w F p D):∀ x∈F,x<w.heap.size:=by
 obtain⟨ho,gs,gn,gf,hA,cs,cn,cf,hc,fv,h,rfl⟩:=h;intro x hx;simp only[feet,List.mem_cons]at hx
 rcases hx with rfl|rfl|rfl|rfl|hx
 ·exact h.blk.lt
 ·exact h.safe.lt
 ·exact h.now.lt
 ·exact h.faults.lt
 ·exact h.heldLt (by simpa using hx)
theorem VD.mem (h:VD w F p D):p∈F:=by
 obtain⟨ho,gs,gn,gf,hA,cs,cn,cf,hc,fv,h,rfl⟩:=h
 simp [feet]
end
theorem sectors_at (p:Nat)(F:List Nat)(D:Dk)(w:World)(h:VD w F p D):Calls Tryz.prog 120 #[.pointer (some ⟨p,0,none⟩)] w fun e w'=>e= .returned (.int .i64 D.n)∧w=w':=by
 obtain⟨ho,gs,gn,gf,hA,cs,cn,cf,hc,fv,h,hF⟩:=h;have h0:w.cell? ⟨p,0,none⟩=some (.slice (some ⟨gs,0,none⟩) D.n cs):=h.blk.cell 0;clear h hF ho;go_enter Tryz.func120,Tryz.ntmps120;go_wp2;go_ret;exact⟨rfl,rfl⟩
theorem has_at (p:Nat)(F:List Nat)(D:Dk)(x:Int)(w:World)(h:VD w F p D):Calls Tryz.prog 77 #[.pointer (some ⟨p,0,none⟩),.int .i64 x] w fun e w'=>e= .returned (.bool (D.has x))∧w=w':=by
 have H:=hide h;clear h
 by_cases hx:x<0
 ·have e:D.has x=false:=decide_eq_false (by omega);rw[e];clear e;go_enter Tryz.func77,Tryz.ntmps77;go_wp2;go_ret;exact⟨rfl,rfl⟩
 ·have hx':0≤x:=by omega
  have e:=hide (show(decide (x<D.n)=D.has x)by simp [Dk.has,hx']);clear hx;go_enter Tryz.func77,Tryz.ntmps77;go_wp2_with fail;refine(sectors_at p F D _ H.out).mono ?_;rintro e w' ⟨rfl,rfl⟩;go_wp2;go_ret;exact⟨congrArg (fun q=>Ending.returned (.bool q)) e.out,rfl⟩

theorem act_at (p:Nat)(F:List Nat)(D:Dk)(w:World)(h:VD w F p D)(hb:D.acts<1000000):Calls Tryz.prog 140 #[.pointer (some ⟨p,0,none⟩)] w fun e w'=>e= .returned (.bool D.tick)∧VD w' F p D.ticked∧Kept [p] w w':=by
 obtain⟨ho,gs,gn,gf,hA,cs,cn,cf,hc,fv,h,hF⟩:=h;have HT:=hide (@ticked_same D);have HN:=hide (@ticked_n D);have HO:=hide ho.ticked;have h4:w.cell? ⟨p,4,none⟩=some (.int .i64 fv):=h.blk.cell 4;have h5:w.cell? ⟨p,5,none⟩=some (.int .i64 D.acts):=h.blk.cell 5;have h6:w.cell? ⟨p,6,none⟩=some (.bool D.off):=h.blk.cell 6;have f4:=h.blk.frozen 4;have f5:=h.blk.frozen 5;have f6:=h.blk.frozen 6;have hlo:=h.lo;have hhi:=h.hi;have H:=hide h;have HF:=hide hF;clear h hF ho
 have fin:∀ (fv':Int) (o':Bool) (w':World),Kept [p] w w'→Blk w' p 141 #[.slice (some ⟨gs,0,none⟩) D.n cs,.slice (some ⟨gn,0,none⟩) D.n cn,.slice hA D.held.length hc,.slice (some ⟨gf,0,none⟩) D.n cf,.int .i64 fv',.int .i64 ((D.acts:Int)+1),.bool o']→
   o'=D.ticked.off→ -1≤fv'→fv'<9223372036854775808→(D.ticked.off=false→fv'=D.ticked.fuse)→VD w' F p D.ticked∧Kept [p] w w':=by
  intro fv' o' w' hk hb ho' hl hh hf;subst ho';obtain⟨e1,e2,e3,e4⟩:=HT.out;have hs:=H.out
  have en:D.ticked.now=D.now:=by unfold Dk.now;rw[e1,e2]
  have hne:∀ {g t vs},Row w g t vs→t≠141→g∉[p]:=fun {g t vs} hr ht hm=>by
   simp at hm;subst hm;exact Row.ne_ hr (Row.of_blk hs.blk) ht rfl
  refine⟨⟨HO.out,gs,gn,gf,hA,cs,cn,cf,hc,fv',⟨?_,?_,?_,hs.ne,?_,?_,hl,hh,hf,?_,?_,?_⟩,HF.out⟩,hk⟩
  ·rw[HN.out,e2,e4];exact hb
  ·rw[e1];exact hs.safe.kept hk (hne hs.safe (by decide))
  ·rw[en];exact hs.now.kept hk (hne hs.now (by decide))
  ·rw[e3];exact hs.faults.kept hk (hne hs.faults (by decide))
  ·rw[e2];refine own_kept hs.held hk (fun g hg hm=> ?_);simp at hm;subst hm
   rcases hs.held.2 with⟨h2,_⟩|⟨g',cap,cur,hv,hb',hh',r⟩
   ·injection h2 with h2;subst h2;cases hg
   ·injection hv with hv;subst hv;injection hg with hg;subst hg;exact Row.ne_ (Row.of_blk (show Blk w g' 226 cur from hh')) (Row.of_blk hs.blk) (by decide) rfl
  ·rw[HN.out];exact hs.cs1
  ·rw[HN.out];exact hs.cn1
  ·rw[HN.out];exact hs.cf1
 have HFin:=hide fin;clear fin
 rcases Int.lt_trichotomy fv 0 with hl|hl|hl
 ·obtain⟨o,hoff⟩:∃ o,D.off=o:=⟨_,rfl⟩;rw[hoff]at h6;have E:=hide hoff;clear hoff
  have e1:Hid (D.tick= !o):=hide (by
   unfold Dk.tick;rw[E.out];cases ho:o
   ·have:=H.out.fuse (by rw[E.out,ho])
    simp;omega
   ·rfl)
  go_enter Tryz.func140,Tryz.ntmps140;go_wp2;go_ret;refine⟨congrArg (fun q=>Ending.returned (.bool q)) e1.out.symm,HFin.out fv o _ ((Kept.refl _ _).set_ (.inl (by simp)) _ _) (by have:=H.out.blk.set_ 5 (.int .i64 ((D.acts:Int)+1));rw[E.out]at this;simpa using this) ?_ hlo hhi ?_⟩
  ·unfold Dk.ticked;rw[e1.out];cases o
   ·simpa using E.out.symm
   ·rfl
  ·intro hq;unfold Dk.ticked at hq ⊢;rw[e1.out]at hq ⊢;cases o
   ·have:=H.out.fuse E.out
    simp;omega
   ·simp at hq
 ·subst hl
  have e1:Hid (D.tick=false):=hide (by
   unfold Dk.tick;cases ho:D.off
   ·have:=H.out.fuse ho
    simp;omega
   ·rfl)
  go_enter Tryz.func140,Tryz.ntmps140;go_wp2;go_ret;refine⟨congrArg (fun q=>Ending.returned (.bool q)) e1.out.symm,HFin.out 0 true _ (((Kept.refl _ _).set_ (.inl (by simp)) _ _).set_ (.inl (by simp)) _ _) (by have:=(H.out.blk.set_ 5 (.int .i64 ((D.acts:Int)+1))).set_ 6 (.bool true);simpa using this) ?_ hlo hhi ?_⟩
  ·unfold Dk.ticked;rw[e1.out]
   rfl
  ·intro hq;unfold Dk.ticked at hq;rw[e1.out]at hq;simp at hq
 ·obtain⟨o,hoff⟩:∃ o,D.off=o:=⟨_,rfl⟩;rw[hoff]at h6;have E:=hide hoff;clear hoff
  have e1:Hid (D.tick= !o):=hide (by
   unfold Dk.tick;rw[E.out];cases ho:o
   ·have:=H.out.fuse (by rw[E.out,ho])
    simp;omega
   ·rfl)
  go_enter Tryz.func140,Tryz.ntmps140;go_wp2;go_ret;refine⟨congrArg (fun q=>Ending.returned (.bool q)) e1.out.symm,HFin.out (fv-1) o _ (((Kept.refl _ _).set_ (.inl (by simp)) _ _).set_ (.inl (by simp)) _ _) (by have:=(H.out.blk.set_ 5 (.int .i64 ((D.acts:Int)+1))).set_ 4 (.int .i64 (fv-1));rw[E.out]at this;simpa using this) ?_ (by omega) (by omega) ?_⟩
  ·unfold Dk.ticked;rw[e1.out];cases o
   ·simpa using E.out.symm
   ·rfl
  ·intro hq;unfold Dk.ticked at hq ⊢;rw[e1.out]at hq ⊢;cases o
   ·have:=H.out.fuse E.out
    simp;omega
   ·simp at hq
end Go.Proofs.YtjkmahmoclobmaaGreat.disk
namespace Go.Proofs.YtjkmahmoclobmaaGreat.disk
open Go.RowKit mem base
theorem info8:(Tryz.prog.info? 5).map (fun i=>(i.zero,i.size,i.bytes))=some (some (.int .u8 0),1,1):=by kernel_rfl
theorem info_bool:(Tryz.prog.info? 4).map (fun i=>(i.zero,i.size,i.bytes))=some (some (.bool false),1,1):=by kernel_rfl
def secZero:Value:= .agg (madeCells #[.int .u8 0] 64)
theorem info_sec:(Tryz.prog.info? 224).map (fun i=>(i.zero,i.size,i.bytes))=some (some secZero,64,64):=by kernel_rfl

theorem own_lit (w:World)(e:TypeId)(size:Nat):(w.alloc (.cells #[] e)).ownsRow w.heap.size e size (.slice (some ⟨w.heap.size,0,none⟩) 0 0) 0 []:=
 ⟨by simp,.inr ⟨_,0,#[],rfl,Nat.le_refl _,heap_alloc_new w _,Nat.le_refl _,Nat.zero_le _,by simp,by simp⟩⟩

theorem row_of_own {w:World}{base:Nat}{e:TypeId}{size n:Nat}{v:Value}{xs:List Value}(h:w.ownsRow base e size v n xs)(hv:v.ownBlock≠none):
  ∃ g cap,v= .slice (some ⟨g,0,none⟩) n cap∧base≤g∧n≤cap∧Row w g e xs:=by
 rcases h.2 with⟨rfl,_⟩|⟨g,cap,cur,rfl,hb,hh,hn,hm,hs,ht⟩
 ·exact absurd rfl hv
 ·refine⟨g,cap,rfl,hb,hn,cur,hh,?_,fun i v hv=> ?_⟩
  ·have:n*size≤cap*size:=Nat.mul_le_mul_right _ hn
   rw[h.1];omega
  ·have hi:i<n*size:=by have:=(List.getElem?_eq_some_iff.1 hv).1;rw[h.1]at this;exact this
   rw[←ht,List.getElem?_take_of_lt hi]at hv
   simpa using hv
def Fresh (w w':World)(A:Option Addr)(n c:Nat)(bs:List UInt8):Prop:=bs.length=n∧n≤c∧(A=none→c=0)∧∀ S:List Nat,(∀ x∈S,x<w.heap.size)→Vals w' S A (bs.map B)
theorem Fresh.none (w w':World):Fresh w w' none 0 0 []:=⟨rfl,Nat.le_refl _,fun _=>rfl,fun _ _=>Vals.nil _ _ _⟩
theorem Fresh.kept {w w' w2:World}{A:Option Addr}{n c:Nat}{bs:List UInt8}(h:Fresh w w' A n c bs){S:List Nat}(k:Kept S w' w2)(hs:∀ x∈S,x<w.heap.size):Fresh w w2 A n c bs:=
 ⟨h.1,h.2.1,h.2.2.1,fun S' hS'=>((h.2.2.2 (S++S') (fun x hx=>by
  rcases List.mem_append.1 hx with hx|hx
  ·exact hs x hx
  ·exact hS' x hx)).kept k (fun i hi=>by simp [hi])).mono (fun i hi=>by simp [hi])⟩
theorem Fresh.vals {w w':World}{A:Option Addr}{n c:Nat}{bs:List UInt8}(h:Fresh w w' A n c bs):Vals w' [] A (bs.map B):=h.2.2.2 [] (by simp)
theorem Fresh.drewN {w w':World}{A:Option Addr}{n c:Nat}{bs:List UInt8}(h:Fresh w w' A n c bs)(k:Nat):Fresh w (w'.drewN k) A n c bs:=h
theorem Row.fresh {w w':World}{g n c:Nat}{bs:List UInt8}{t:TypeId}(h:Row w' g t (bs.map B))(hg:w.heap.size≤g)(hl:bs.length=n)(hc:n≤c):Fresh w w' (some ⟨g,0,none⟩) n c bs:=
 ⟨hl,hc,(fun h0=>by cases h0),fun S hS=>h.vals0 (fun hm=>by have:=hS _ hm;omega)⟩

theorem clone_own (ad:Addr)(n c:Nat)(bs:List UInt8)(w:World)(hv:Vals w [] (some ad) (bs.map B))(hl:bs.length=n)(hm:n≤1000000):
  Calls Tryz.prog 114 #[.slice (some ad) n c] w fun e w'=>∃ g cap,e= .returned (.slice (some ⟨g,0,none⟩) n cap)∧Fresh w w' (some ⟨g,0,none⟩) n cap bs∧w'.ownsRow w.heap.size 5 1 (.slice (some ⟨g,0,none⟩) n cap) n (bs.map B)∧Kept [] w w':=by
 have hnil:=Lib.run_eql_slice_nil (P:=Tryz.prog);have HV:Hid (Vals (w.alloc (.cells #[] 5)) [] (some ad) (bs.map B)):=hide (hv.kept (S':=[]) ((Kept.refl _ w).alloc _) (fun _ h=>h));have HL:=hide hl;clear hv hl;go_enter Tryz.func114,Tryz.ntmps114;go_wp2_with (at_builtin;refine wpList_append_vals rfl (.tmp 5) (.tmp 6) 41 rfl w.heap.size 5 (.int .u8 0) 1 1 Tryz.underlying41 info8 rfl (by omega) (.slice (some ⟨w.heap.size,0,none⟩) 0 0) 0 [] rfl (own_lit w _ _) [] (some ad) n c (bs.map B) rfl (by rw[List.length_map,HL.out];simp) HV.out (oneCell_B bs) (by simp only[maxLen];omega) (by omega) (by simp) ?_;intro v1 w1 hown1 hk1 hat1);go_ret;obtain⟨g,cap,rfl,hb,hc,hr⟩:=row_of_own hown1 (by rcases hat1 with h|h<;>rw[h]<;>simp [Value.ownBlock]);refine⟨g,cap,by simp,?_,by simpa using hown1,?_⟩
 ·refine Row.fresh (t:=5) (by simpa using hr) hb HL.out (by simpa using hc)
 ·refine((Kept.refl [] w).alloc (.cells #[] 5)).trans hk1 (fun i hi=> .inr ?_)
  simp [Value.ownBlock]at hi
  omega
theorem clone_secs (ad:Addr)(n c:Nat)(bs:List UInt8)(w:World)(hv:Vals w [] (some ad) (bs.map B))(hl:bs.length=64*n)(hm:n≤4096):
  Calls Tryz.prog 211 #[.slice (some ad) n c] w fun e w'=>∃ g cap,e= .returned (.slice (some ⟨g,0,none⟩) n cap)∧w.heap.size≤g∧n≤cap∧Row w' g 224 (bs.map B)∧Kept [] w w':=by
 have hnil:=Lib.run_eql_slice_nil (P:=Tryz.prog);have HV:Hid (Vals (w.alloc (.cells #[] 224)) [] (some ad) (bs.map B)):=hide (hv.kept (S':=[]) ((Kept.refl _ w).alloc _) (fun _ h=>h));have HL:=hide hl;clear hv hl;go_enter Tryz.func211,Tryz.ntmps211;go_wp2_with (at_builtin;refine wpList_append_vals rfl (.tmp 5) (.tmp 6) 138 rfl w.heap.size 224 secZero 64 64 Tryz.underlying138 info_sec (by kernel_rfl) (by omega) (.slice (some ⟨w.heap.size,0,none⟩) 0 0) 0 [] rfl (own_lit w _ _) [] (some ad) n c (bs.map B) rfl (by rw[List.length_map,HL.out];omega) HV.out (oneCell_B bs) (by simp only[maxLen];omega) (by omega) (by simp) ?_;intro v1 w1 hown1 hk1 hat1);go_ret;obtain⟨g,cap,rfl,hb,hc,hr⟩:=row_of_own hown1 (by rcases hat1 with h|h<;>rw[h]<;>simp [Value.ownBlock]);refine⟨g,cap,by simp,hb,by simpa using hc,by simpa using hr,?_⟩;refine((Kept.refl [] w).alloc (.cells #[] 224)).trans hk1 (fun i hi=> .inr ?_)
 simp [Value.ownBlock]at hi
 omega
theorem make_secs (n:Nat)(hn:n≤4096)(w:World):
  (Instr.makeSlice 138 (.int .i64 (n:Int)) (.int .i64 (n:Int))).run Tryz.prog w= .ok (.slice (some ⟨w.heap.size,0,none⟩) n n) (w.alloc (.cells (madeCells secZero.cells (n*64)) 224)):=by
 obtain⟨i,hi,hzz⟩:=Option.map_eq_some_iff.1 info_sec;simp only[Prod.mk.injEq]at hzz;obtain⟨hz,hs,hb⟩:=hzz;have h:=run_make (P:=Tryz.prog) w 138 224 i secZero Tryz.underlying138 hi hz .i64 .i64 n n (by omega) (Int.le_refl _) (by rw[hb];omega) (by omega);simp only[Int.toNat_natCast,hs]at h;exact h
theorem sec_cells_size:secZero.cells.size=64:=by kernel_rfl
theorem sec_cells_at (j:Nat)(h:j<64):secZero.cells[j]! = B 0:=by
 have h2:secZero.cells[j]? = some (B 0):=made_B 64 j h;rw[getElem!_def,h2]
theorem row_secs (n:Nat)(w:World):Row (w.alloc (.cells (madeCells secZero.cells (n*64)) 224)) w.heap.size 224 ((List.replicate (64*n) (0:UInt8)).map B):=by
 refine⟨_,Blk.new _ _ _,by rw[size_madeCells];simp;omega,fun i v hv=> ?_⟩;rw[List.map_replicate,List.getElem?_replicate]at hv
 split at hv
 ·rename_i hi
  unfold madeCells;rw[Array.getElem?_map,Array.getElem?_range,if_pos (by omega),Option.map_some,sec_cells_size,sec_cells_at _ (Nat.mod_lt _ (by omega))];exact hv
 ·cases hv
theorem make_bools (n:Nat)(hn:n≤4096)(w:World):
  (Instr.makeSlice 99 (.int .i64 (n:Int)) (.int .i64 (n:Int))).run Tryz.prog w= .ok (.slice (some ⟨w.heap.size,0,none⟩) n n) (w.alloc (.cells (madeCells #[.bool false] n) 4)):=
 run_make_row' 99 4 (.bool false) 1 Tryz.underlying99 info_bool rfl .i64 .i64 n (by omega) (by omega) w
theorem row_bools (n:Nat)(w:World):Row (w.alloc (.cells (madeCells #[.bool false] n) 4)) w.heap.size 4 ((List.replicate n false).map Value.bool):=by
 refine⟨_,Blk.new _ _ _,by rw[size_madeCells];simp,fun i v hv=> ?_⟩;rw[List.map_replicate,List.getElem?_replicate]at hv
 split at hv
 ·rename_i hi
  simp [madeCells,hi,Nat.mod_one]
  simpa using hv
 ·cases hv
end Go.Proofs.YtjkmahmoclobmaaGreat.disk
namespace Go.Proofs.YtjkmahmoclobmaaGreat.disk
open Go.RowKit mem base
theorem made_at (gs gf cs cf n:Nat)(bs:List UInt8)(fs:List Bool)(w:World)(hs:Row w gs 224 (bs.map B))(hf:Row w gf 4 (fs.map Value.bool))(hbl:bs.length=64*n)(hfl:fs.length=n)(h2:n≤4096)(hcs:n≤cs)(hcf:n≤cf):
  Calls Tryz.prog 178 #[.slice (some ⟨gs,0,none⟩) n cs,.slice (some ⟨gf,0,none⟩) n cf] w fun e w'=>
   ∃ p gn cn,e= .returned (.pointer (some ⟨p,0,none⟩))∧VDat w' p ⟨bs,[],fs,-1,0,false⟩ gs gn gf none cs cn cf 0 (-1)∧w.heap.size≤p∧w.heap.size≤gn∧Kept [] w w':=by
 have HS:=hide hs;have HF:=hide hf;have HBL:=hide hbl;have HFL:=hide hfl;clear hs hf hbl hfl;go_enter Tryz.func178,Tryz.ntmps178;go_wp2_with fail;refine(clone_secs ⟨gs,0,none⟩ n cs bs _ (HS.out.vals0 (by simp)) HBL.out h2).mono ?_;rintro e w1 ⟨gn,cn,rfl,hgn,hcn,hr,hk⟩;have HR:=hide hr;have HK:=hide hk;clear hr hk;go_wp2;go_ret;have hfn:Dk.n ⟨bs,[],fs,-1,0,false⟩=n:=HFL.out;have hk1:=HK.out.alloc (.cells #[.slice (some ⟨gs,0,none⟩) n cs,.slice (some ⟨gn,0,none⟩) n cn,.slice none 0 0,.slice (some ⟨gf,0,none⟩) n cf,.int .i64 (-1),.int .i64 0,.bool false] 141);refine⟨_,gn,cn,rfl,⟨?_,HS.out.kept hk1 (by simp),HR.out.alloc _,fun e=>by have:=HS.out.lt;omega,HF.out.kept hk1 (by simp),⟨by simp [heldCells],.inl ⟨rfl,rfl⟩⟩,by omega,by omega,fun _=>rfl,by rw[hfn];exact hcs,by rw[hfn];exact hcn,by rw[hfn];exact hcf⟩,HK.out.size,hgn,hk1⟩;rw[hfn];exact Blk.new _ _ _

theorem vd_of_made {w w':World}{p gs gn gf cs cn cf n:Nat}{bs:List UInt8}{fs:List Bool}(h:VDat w' p ⟨bs,[],fs,-1,0,false⟩ gs gn gf none cs cn cf 0 (-1))(hp:w.heap.size≤p)(hgs:w.heap.size≤gs)(hgn:w.heap.size≤gn)(hgf:w.heap.size≤gf)
  (hbl:bs.length=64*n) (hfl:fs.length=n) (h1:1≤n) (h2:n≤4096):∃ F,VD w' F p ⟨bs,[],fs,-1,0,false⟩∧∀ x∈F,w.heap.size≤x:=by
 have hfn:Dk.n ⟨bs,[],fs,-1,0,false⟩=n:=hfl;refine⟨_,⟨⟨by rw[hfn];exact h1,by rw[hfn];exact h2,by rw[hfn];exact hbl,by simp,by simp,by simp⟩,_,_,_,_,_,_,_,_,_,h,rfl⟩,?_⟩;intro x hx
 simp [feet]at hx
 omega

end Go.Proofs.YtjkmahmoclobmaaGreat.disk
namespace Go.Proofs.YtjkmahmoclobmaaGreat.disk
open Go.RowKit mem base
theorem new_ok (n:Nat)(w:World)(h1:1≤n)(h2:n≤4096):Calls Tryz.prog 126 #[.int .i64 n] w fun e w'=>
  ∃ F p,e= .returned (.tuple #[.pointer (some ⟨p,0,none⟩),.int .i64 0])∧VD w' F p (Dk.new n)∧(∀ x∈F,w.heap.size≤x)∧Kept [] w w':=by
 have hs:=make_secs n h2;have hb:=make_bools n h2;have rs:=row_secs n;have rb:=row_bools n;have hnew:Dk.new n=⟨List.replicate (64*n) 0,[],List.replicate n false,-1,0,false⟩:=rfl
 have hbl:(List.replicate (64*n) (0:UInt8)).length=64*n:=by simp
 have hfl:(List.replicate n false).length=n:=by simp
 generalize madeCells secZero.cells (n*64)=Z at hs rs;generalize madeCells #[Value.bool false] n=Y at hb rb;generalize List.replicate (64*n) (0:UInt8)=bs at rs hnew hbl;generalize List.replicate n false=fs at rb hnew hfl;rw[hnew];clear hnew;have RS:=hide rs;have RB:=hide rb;have HBL:=hide hbl;have HFL:=hide hfl;have r1:Row ((w.alloc (.cells Z 224)).alloc (.cells Y 4)).drew w.heap.size 224 (bs.map B):=((rs w).alloc _).drew
 have r2:Row ((w.alloc (.cells Z 224)).alloc (.cells Y 4)).drew (w.heap.size+1) 4 (fs.map Value.bool):=by have:=rb (w.alloc (.cells Z 224));simpa using this.drew
 have q2:Row ((w.alloc (.cells Y 4)).alloc (.cells Z 224)).drew w.heap.size 4 (fs.map Value.bool):=((rb w).alloc _).drew
 have q1:Row ((w.alloc (.cells Y 4)).alloc (.cells Z 224)).drew (w.heap.size+1) 224 (bs.map B):=by have:=rs (w.alloc (.cells Y 4));simpa using this.drew
 clear rs rb hbl hfl RS RB;go_enter Tryz.func126,Tryz.ntmps126;go_wp2
 go_region_held3 (fun _=>True) (trivial)
  (first
  | (go_at_call 178;refine(made_at _ _ _ _ n bs fs _ (by assumption) (by assumption) HBL.out HFL.out h2 (Nat.le_refl _) (Nat.le_refl _)).mono ?_;rintro e w1 ⟨p,gn,cn,rfl,hd,hp,hgn,hk⟩))
 all_goals
  go_wp2;go_ret2;have hd2:=vd_of_made (w:=w) (n:=n) hd (by simp at hp;omega) (by omega) (by simp at hgn;omega) (by omega) HBL.out HFL.out h1 h2;obtain⟨F,hv,hF⟩:=hd2;refine⟨F,p,rfl,hv,hF,?_⟩
  exact((((Kept.refl [] w).alloc _).alloc _).drew).trans hk (by simp)

end Go.Proofs.YtjkmahmoclobmaaGreat.disk
namespace Go.Proofs.YtjkmahmoclobmaaGreat.disk
open Go.RowKit mem base
theorem has_nat {D:Dk}{x:Int}(h:D.has x=true):∃ i:Nat,x=i∧i<D.n:=by
 have:0≤x∧x<D.n:=by simpa [Dk.has]using h
 exact⟨x.toNat,by omega,by omega⟩
theorem fault_cell (fs:List Bool)(i:Nat)(h:i<fs.length):(fs.map Value.bool)[i]? = some (.bool (fs.getD i false)):=by
 rw[List.getElem?_map,List.getElem?_eq_getElem h,List.getD_eq_getElem?_getD,List.getElem?_eq_getElem h]
 rfl

theorem fault_at (p:Nat)(F:List Nat)(D:Dk)(x:Int)(o:Bool)(w:World)(h:VD w F p D):Calls Tryz.prog 18 #[.pointer (some ⟨p,0,none⟩),.int .i64 x,.bool o] w fun e w'=>
  e= .returned (.int .i64 (D.faulted x o).1)∧VD w' F p (D.faulted x o).2∧Kept F w w':=by
 have H:=hide h;clear h;obtain⟨q,hq⟩:∃ q,D.has x=q:=⟨_,rfl⟩;cases q
 ·have e:D.faulted x o=(1,D):=by simp [Dk.faulted,hq]
  rw[e];have HQ:=hide hq;clear e hq;go_enter Tryz.func18,Tryz.ntmps18;go_wp2_with fail;refine(has_at p F D x _ H.out).mono ?_;rintro e w' ⟨rfl,rfl⟩;rw[HQ.out];go_wp2;go_ret;exact⟨rfl,H.out,Kept.refl _ _⟩
 ·have e:D.faulted x o=(0,{D with faults:=D.faults.set x.toNat o}):=by simp [Dk.faulted,hq]
  rw[e];have HQ:=hide hq;obtain⟨i,rfl,hi⟩:=has_nat hq;rw[Int.toNat_natCast];clear e hq;obtain⟨ho,gs,gn,gf,hA,cs,cn,cf,hc,fv,h,hF⟩:=H.out;have h3:w.cell? ⟨p,3,none⟩=some (.slice (some ⟨gf,0,none⟩) D.n cf):=h.blk.cell 3;have c1:=h.faults.cell (fault_cell D.faults i hi);have f1:=h.faults.frozen i;have h0:=hide h;have HF:=hide hF;have HO:=hide (ho.faulted i o);clear h hF ho;go_enter Tryz.func18,Tryz.ntmps18;go_wp2_with fail;refine(has_at p F D i _ H.out).mono ?_;rintro e w' ⟨rfl,rfl⟩;rw[HQ.out];go_wp2;go_ret;have hv:=h0.out;have k:Kept [gf] w (w.setCell ⟨gf,i,none⟩ (.bool o)):=(Kept.refl _ _).set_ (.inl (by simp)) _ _;have hfp:gf≠p:=Row.ne_ hv.faults (Row.of_blk hv.blk) (by decide);have hfs:gf≠gs:=Row.ne_ hv.faults hv.safe (by decide);have hfn:gf≠gn:=Row.ne_ hv.faults hv.now (by decide)
  have en:Dk.n {D with faults:=D.faults.set i o}=D.n:=by simp [Dk.n]
  refine⟨rfl,⟨HO.out,gs,gn,gf,hA,cs,cn,cf,hc,fv,⟨?_,hv.safe.kept k (by simpa using Ne.symm hfs),hv.now.kept k (by simpa using Ne.symm hfn),hv.ne,?_,own_kept hv.held k (fun g hg hm=> ?_),hv.lo,hv.hi,hv.fuse,by rw[en];exact hv.cs1,by rw[en];exact hv.cn1,by rw[en];exact hv.cf1⟩,HF.out⟩,k.mono (fun j hj=> .inl (by rw[HF.out];simp at hj;simp [feet,hj]))⟩
  ·rw[en];exact k.blk hv.blk (by simpa using Ne.symm hfp)
  ·have:=hv.faults.set_ i (.bool o)
   rw[←List.map_set]at this;exact this
  ·simp at hm;subst hm
   rcases hv.held.2 with⟨h2,_⟩|⟨g',cap,cur,hv',hb',hh',r⟩
   ·injection h2 with h2;subst h2;cases hg
   ·injection hv' with hv';subst hv';injection hg with hg;subst hg;exact Row.ne_ (Row.of_blk (show Blk w g' 226 cur from hh')) hv.faults (by decide) rfl

theorem ret_err {A:Option Addr}{n n' c:Nat}{e:Int}(h:n=n'):Ending.returned (.tuple #[.slice A n c,.int .i64 e])=Ending.returned (.tuple #[.slice A n' c,.int .i64 e]):=by rw[h]
def AnswersO (w w':World)(e:Ending)(r:Int×List UInt8):Prop:=∃ A c,e= .returned (.tuple #[.slice A r.2.length c,.int .i64 r.1])∧Fresh w w' A r.2.length c r.2∧w'.ownsRow w.heap.size 5 1 (.slice A r.2.length c) r.2.length (r.2.map B)
theorem own_of_arr {w:World}{g n base:Nat}{bs:List UInt8}(h:Arr w g n bs)(hl:bs.length=n)(hb:base≤g)(hm:n≤1000000):w.ownsRow base 5 1 (.slice (some ⟨g,0,none⟩) n n) n (bs.map B):=by
 obtain⟨cs,hk,hz,_,r⟩:=h;refine⟨by simp [hl],.inr ⟨g,n,cs,rfl,hb,hk,Nat.le_refl _,by unfold maxLen;omega,by omega,?_⟩⟩;rw[Nat.mul_one,List.take_of_length_le (by simp;omega)]
 apply List.ext_getElem?
 intro i;rw[List.getElem?_map]
 by_cases hi:i<bs.length
 ·rw[List.getElem?_eq_getElem hi,Option.map_some]
  have:=r i _ (List.getElem?_eq_getElem hi)
  simpa using this
 ·rw[List.getElem?_eq_none (by rw[Array.length_toList];omega),List.getElem?_eq_none (by omega)]
  rfl

theorem read_own (p:Nat)(F:List Nat)(D:Dk)(x:Int)(w:World)(h:VD w F p D):Calls Tryz.prog 113 #[.pointer (some ⟨p,0,none⟩),.int .i64 x] w fun e w'=>
  AnswersO w w' e (D.read x)∧Kept [] w w':=by
 have H:=hide h;clear h;obtain⟨q,hq⟩:∃ q,D.has x=q:=⟨_,rfl⟩;cases q
 ·have e:D.read x=(1,[]):=by simp [Dk.read,hq]
  rw[e];have HQ:=hide hq;clear e hq;go_enter Tryz.func113,Tryz.ntmps113;go_wp2_with fail;refine(has_at p F D x _ H.out).mono ?_;rintro e w' ⟨rfl,rfl⟩;rw[HQ.out];go_wp2;go_ret2;exact⟨⟨none,0,rfl,Fresh.none _ _,World.ownsRow_nil _ _ _ _⟩,Kept.refl _ _⟩
 ·have HQ:=hide hq;obtain⟨i,rfl,hi⟩:=has_nat hq;obtain⟨ho,gs,gn,gf,hA,cs,cn,cf,hc,fv,h,hF⟩:=H.out;have h1:w.cell? ⟨p,1,none⟩=some (.slice (some ⟨gn,0,none⟩) D.n cn):=h.blk.cell 1;have h3:w.cell? ⟨p,3,none⟩=some (.slice (some ⟨gf,0,none⟩) D.n cf):=h.blk.cell 3;have h6:w.cell? ⟨p,6,none⟩=some (.bool D.off):=h.blk.cell 6;have c1:=h.faults.cell (fault_cell D.faults i hi);have hn:=ho.n2;have HN:=hide ho.now;have HW:=hide h.now;obtain⟨o,hoff⟩:∃ o,D.off=o:=⟨_,rfl⟩;obtain⟨f,hflt⟩:∃ f,D.faults.getD i false=f:=⟨_,rfl⟩;rw[hoff]at h6;rw[hflt]at c1
  have e:D.read i=(if o=true then(3,[])else if f=true then(4,[])else(0,sec D.now i)):=by unfold Dk.read;rw[hq,hoff,Int.toNat_natCast,hflt];rfl
  rw[e];clear e hq hoff hflt h hF ho;cases o
  ·cases f
   ·rw[if_neg (by simp),if_neg (by simp)];have HS:=hide (sec_length D.now i D.n HN.out hi);have HV:Hid (Vals w [] (some ⟨gn,i*64,none⟩) ((sec D.now i).map B)):=hide (by rw[sec_map,Nat.mul_comm];exact HW.out.vals (by simp) _ _);go_enter Tryz.func113,Tryz.ntmps113;go_wp2_with fail;refine(has_at p F D i _ H.out).mono ?_;rintro e w' ⟨rfl,rfl⟩;rw[HQ.out];go_wp2_with fail;refine(clone_own ⟨gn,i*64,none⟩ 64 64 (sec D.now i) _ HV.out HS.out (by omega)).mono ?_;rintro e w1 ⟨g,cap,rfl,hfr,hor,hk⟩;go_wp2;go_ret2;refine⟨⟨some ⟨g,0,none⟩,cap,ret_err HS.out.symm,?_⟩,hk⟩;rw[HS.out];exact⟨hfr,hor⟩
   ·rw[if_neg (by simp),if_pos rfl];go_enter Tryz.func113,Tryz.ntmps113;go_wp2_with fail;refine(has_at p F D i _ H.out).mono ?_;rintro e w' ⟨rfl,rfl⟩;rw[HQ.out];go_wp2;go_ret2;exact⟨⟨none,0,rfl,Fresh.none _ _,World.ownsRow_nil _ _ _ _⟩,Kept.refl _ _⟩
  ·rw[if_pos rfl];go_enter Tryz.func113,Tryz.ntmps113;go_wp2_with fail;refine(has_at p F D i _ H.out).mono ?_;rintro e w' ⟨rfl,rfl⟩;rw[HQ.out];go_wp2;go_ret2;exact⟨⟨none,0,rfl,Fresh.none _ _,World.ownsRow_nil _ _ _ _⟩,Kept.refl _ _⟩
end Go.Proofs.YtjkmahmoclobmaaGreat.disk
namespace Go.Proofs.YtjkmahmoclobmaaGreat.disk
open Go.RowKit mem base
theorem arr_under:Tryz.prog.underlying 224=some (.array 64 5):=by kernel_rfl
theorem sec_size:(Tryz.prog.info? 224).map (·.size)=some 64:=by kernel_rfl
theorem write_size:(Tryz.prog.info? 226).map (·.size)=some 65:=by kernel_rfl
theorem info_write:(Tryz.prog.info? 226).map (fun i=>(i.zero.map fun z=>z.cells.size,i.size,i.bytes))=some (some 65,65,72):=by kernel_rfl
theorem array_at (A:Option Addr)(c:Nat)(w:World):(Instr.arrayAt 224 (.slice A 64 c)).run Tryz.prog w= .ok (.pointer A) w:=run_arrayAt w 224 _ _ A 64 c arr_under (Nat.le_refl _)

theorem load_sec (ad:Addr)(cs:List Value)(w:World)(hl:cs.length=64)(h:∀ j v,cs[j]? = some v→w.cell? (ad.add j)=some v):(loadVar 224 ad).run Tryz.prog w= .ok (.agg cs.toArray) w:=by
 have h1:(loadCells ad cs.length).run Tryz.prog w= .ok cs.toArray w:=run_loadCells_list (P:=Tryz.prog) w ad cs h;rw[hl]at h1
 cases hq:Tryz.prog.info? 224 with
 | none=>have:=sec_size;rw[hq]at this;cases this
 | some i=>
  have hs:i.size=64:=by have:=sec_size;rw[hq]at this;simpa using this
  have hagg:(isAgg 224).run Tryz.prog w= .ok true w:=by
   unfold isAgg;rw[Sem.run_bind,run_underlying arr_under w]
   rfl
  simp [loadVar,Sem.run_bind,hagg,sizeOf,typeInfo,hq,hs,h1]

theorem fold_set (cs:List Value):∀ (k n:Nat) (Z:Array Value),n+k+cs.length≤Z.size→
  ∃ Z':Array Value,(cs.zipIdx n).foldl (fun acc (x:Value×Nat)=>acc.setIfInBounds (k+x.2) x.1) Z=Z'∧Z'.size=Z.size∧∀ i,i<Z.size→Z'[i]? = if n+k≤i∧i<n+k+cs.length then cs[i-(n+k)]? else Z[i]? := by
 induction cs with
 | nil=>exact fun k n Z _=>⟨Z,rfl,rfl,fun i _=>by rw[if_neg (by simp)]⟩
 | cons x cs ih=>
  intro k n Z hz;simp only[List.length_cons]at hz;obtain⟨Z',h1,h2,h3⟩:=ih k (n+1) (Z.setIfInBounds (k+n) x) (by simp;omega);refine⟨Z',h1,by rw[h2];simp,fun i hi=> ?_⟩;rw[h3 i (by simpa using hi),Array.getElem?_setIfInBounds];simp only[List.length_cons]
  by_cases e:k+n=i
  ·subst e;rw[if_neg (by omega),if_pos rfl,if_pos hi,if_pos (by omega),show k+n-(n+k)=0 by omega]
   rfl
  ·by_cases hc:n+1+k≤i∧i<n+1+k+cs.length
   ·rw[if_pos hc,if_pos (by omega),show i-(n+k)=(i-(n+1+k))+1 by omega,List.getElem?_cons_succ]
   ·rw[if_neg hc,if_neg e,if_neg (by omega)]

theorem info_int:∃ i,Tryz.prog.info? 3=some i∧i.size=1:=by
 have h:(Tryz.prog.info? 3).map (·.size)=some 1:=by kernel_rfl
 obtain⟨i,h1,h2⟩:=Option.map_eq_some_iff.1 h;exact⟨i,h1,h2⟩
theorem info_sec2:∃ i,Tryz.prog.info? 224=some i∧i.size=64:=by
 obtain⟨i,h1,h2⟩:=Option.map_eq_some_iff.1 sec_size;exact⟨i,h1,h2⟩
theorem info_write2:∃ (i:TypeInfo) (zc:Array Value),Tryz.prog.info? 226=some i∧i.zero=some (.agg zc)∧zc.size=65∧i.size=65:=by
 obtain⟨i,h1,h2⟩:=Option.map_eq_some_iff.1 info_write;simp only[Prod.mk.injEq]at h2;obtain⟨z,h3,h4⟩:=Option.map_eq_some_iff.1 h2.1
 cases z<;>simp [Value.cells]at h4
 rename_i zc
 exact⟨i,zc,h1,h3,h4,h2.2.1⟩
theorem build_write (x:Int)(cs:List Value)(w:World)(hl:cs.length=64):(Instr.build 226 #[(0,.int .i64 x),(1,.agg cs.toArray)]).run Tryz.prog w= .ok (.agg (Value.int .i64 x::cs).toArray) w:=by
 obtain⟨i3,h3,s3⟩:=info_int;obtain⟨i70,h70,s70⟩:=info_sec2;obtain⟨i72,zc,h72,hz,hzs,s72⟩:=info_write2;obtain⟨Z',hf,hfs,hfi⟩:=fold_set cs 1 0 (zc.setIfInBounds 0 (.int .i64 x)) (by simp;omega)
 have hZ:Z'=(Value.int .i64 x::cs).toArray:=by
  apply Array.ext_getElem?
  intro j
  have e1:((Value.int .i64 x::cs).toArray)[j]? = (Value.int .i64 x::cs)[j]? := by simp
  rw[e1]
  rcases Nat.lt_or_ge j 65 with hj|hj
  ·rw[hfi j (by simp;omega),Array.getElem?_setIfInBounds]
   rcases j with _|j
   ·rw[if_neg (by omega),if_pos rfl,if_pos (by omega)]
    rfl
   ·rw[if_pos (by omega),List.getElem?_cons_succ]
    congr 1
  ·rw[Array.getElem?_eq_none (by rw[hfs];simp;omega),List.getElem?_eq_none (by simp;omega)]
 have hne:¬zc=#[]:=fun h=>by rw[h]at hzs;simp at hzs
 rw[←hZ,←hf]
 simp [hne,Instr.build,zeroValue,typeInfo,h72,hz,run_underlying Tryz.underlying226,sizeOf,h3,h70,s3,s70,Instr.fill,Value.cells,hl,hzs,List.zipIdx]

section
variable {P:Program}{w w':World}
theorem wp_value {o:Oper}{a:Act}{K:Act→World→Prop}{Q:Exit→Act→World→Prop}{v:Value}(hrun:(execOp a.eval o).run P w= .ok (.value v) w')(h:K (a.put o.dst v) w'):o.wp P a w K Q:=by
 unfold Oper.wp;rw[hrun];exact h
theorem exec_load {o:Oper}{a:Act}(ty:TypeId)(x:Operand)(ho:o.op= .load ty x)(ad:Addr)(hx:a.eval x= .pointer (some ad)){v:Value}(h:(loadVar ty ad).run P w= .ok v w):(execOp a.eval o).run P w= .ok (.value v) w:=by
 unfold execOp;simp only[ho,hx,Instr.loadAt,Instr.sureAddr,Sem.run_bind,Sem.run_pure,Result.andThen_ok,h]
theorem exec_build2 {o:Oper}{a:Act}(ty:TypeId)(x y:Operand)(ho:o.op= .build ty #[(0,x),(1,y)])(vx vy:Value)(hx:a.eval x=vx)(hy:a.eval y=vy){v:Value}(h:(Instr.build ty #[(0,vx),(1,vy)]).run P w= .ok v w):(execOp a.eval o).run P w= .ok (.value v) w:=by
 unfold execOp;simp only[ho,List.map_toArray,List.map_cons,List.map_nil,hx,hy,Sem.run_bind,Sem.run_pure,Result.andThen_ok,h]
theorem exec_buildSlice1 {o:Oper}{a:Act}(ty:TypeId)(x:Operand)(ho:o.op= .buildSlice ty 1 #[(0,x)])(vx:Value)(hx:a.eval x=vx){v:Value}(h:(Instr.buildSlice ty 1 #[(0,vx)]).run P w= .ok v w'):(execOp a.eval o).run P w= .ok (.value v) w':=by
 unfold execOp;simp only[ho,List.map_toArray,List.map_cons,List.map_nil,hx,Sem.run_bind,Sem.run_pure,Result.andThen_ok,h]
theorem wpList_value {ops:Array Oper}{rest:List Oper}{o:Oper}{a:Act}{Q:Exit→Act→World→Prop}(hgd:o.guard=none){v:Value}(hrun:(execOp a.eval o).run P w= .ok (.value v) w')(h:wpList P ops Q rest (a.put o.dst v) w'):wpList P ops Q (o::rest) a w:=
 wpList_plain hgd fun _ hK=>wp_value hrun (hK _ _ h)
theorem wpAny_one {md:Region.Mode}{ops:Array Oper}{Q:Exit→Act→World→Prop}{fuel:Nat}{listed:Array Bool}{a:Act}{i:Nat}{o:Oper}(hr:Region.ready md ops listed=[i])(ho:ops[i]? = some o)(hw:Region.wanted o (yielded ops a.tmps)=true)
  (h:∀ K:Act→World→Prop,(∀ a w,wpAny P md ops Q fuel (listed.setIfInBounds i true) a w→K a w)→Oper.wp P o a w K Q):wpAny P md ops Q (fuel+1) listed a w:=
 wpAny_all hr (by simp) (fun j hj=>by
  simp at hj;subst hj;unfold wpOp;simp only[ho,hw,if_true]
  exact .inl (h _ (fun _ _ h=>h)))
theorem wpAny_two {md:Region.Mode}{ops:Array Oper}{Q:Exit→Act→World→Prop}{fuel:Nat}{listed:Array Bool}{a:Act}{i j:Nat}{o o2:Oper}(hr:Region.ready md ops listed=[i,j])(ho:ops[i]? = some o)(ho2:ops[j]? = some o2)(hw:Region.wanted o (yielded ops a.tmps)=true)(hw2:Region.wanted o2 (yielded ops a.tmps)=true)
  (h:∀ K:Act→World→Prop,(∀ a w,wpAny P md ops Q fuel (listed.setIfInBounds i true) a w→K a w)→Oper.wp P o a w K Q)
  (h2:∀ K:Act→World→Prop,(∀ a w,wpAny P md ops Q fuel (listed.setIfInBounds j true) a w→K a w)→Oper.wp P o2 a w K Q):wpAny P md ops Q (fuel+1) listed a w:=
 wpAny_all hr (by simp) (fun k hk=>by
  simp at hk
  rcases hk with rfl|rfl
  ·unfold wpOp;simp only[ho,hw,if_true];exact .inl (h _ (fun _ _ h=>h))
  ·unfold wpOp;simp only[ho2,hw2,if_true]
   exact .inl (h2 _ (fun _ _ h=>h)))
theorem load_row (ty t:TypeId)(d:TypeDesc)(g:Nat)(vs:List Value)(k:Nat)(cs:List Value)(hr:Row w g t vs)(hc:(vs.drop k).take cs.length=cs)(hu:P.underlying ty=some d)(hd:d.isRow=true)(hi:(P.info? ty).map (·.size)=some cs.length):(loadVar ty ⟨g,k,none⟩).run P w= .ok (.agg cs.toArray) w:=
 run_loadVar_mid w g k ty cs d (by have:=hr.range k cs.length;rwa [hc]at this) hu hd hi
end
theorem build_writes (cs:List Value)(w:World)(hl:cs.length=65):(Instr.buildSlice 139 1 #[(0,.agg cs.toArray)]).run Tryz.prog w= .ok (.slice (some ⟨w.heap.size,0,none⟩) 1 1) (w.alloc (.cells cs.toArray 226)):=by
 obtain⟨i72,zc,h72,hz,hzs,s72⟩:=info_write2;obtain⟨Z',hf,hfs,hfi⟩:=fold_set cs 0 0 ((Array.range 65).map (zc[· % 65]!)) (by simp;omega)
 have hZ:Z'=cs.toArray:=by
  apply Array.ext_getElem?
  intro j
  have e1:(cs.toArray)[j]? = cs[j]? := by simp
  rw[e1]
  rcases Nat.lt_or_ge j 65 with hj|hj
  ·rw[hfi j (by simp;omega),if_pos (by omega)]
   congr 1
  ·rw[Array.getElem?_eq_none (by rw[hfs];simp;omega),List.getElem?_eq_none (by omega)]
 have key:List.foldl (fun acc (x:Value×Nat)=>acc.setIfInBounds x.2 x.1) ((Array.range 65).map (zc[· % 65]!)) cs.zipIdx=cs.toArray:=by
  have:=hf.trans hZ
  simpa using this
 simp [key,Instr.buildSlice,zeroValue,typeInfo,h72,hz,run_underlying Tryz.underlying139,sizeOf,s72,Instr.fill,Value.cells,hl,hzs,newRow]
end Go.Proofs.YtjkmahmoclobmaaGreat.disk
namespace Go.Proofs.YtjkmahmoclobmaaGreat.disk
open Go.RowKit mem base
theorem write_z:(Tryz.prog.info? 226).map (fun i=>(i.zero.map fun z=>z.cells.size,i.size))=some (some 65,65):=by kernel_rfl
def writeZero:Value:= .agg ((madeCells #[.int .u8 0] 65).setIfInBounds 0 (.int .i64 0))
theorem info_wr:(Tryz.prog.info? 226).map (fun i=>(i.zero,i.size,i.bytes))=some (some writeZero,65,72):=by kernel_rfl
theorem writeZero_size:writeZero.cells.size=65:=by kernel_rfl

theorem VDat.held_ne {w:World}{p gs gn gf cs cn cf hc:Nat}{D:Dk}{hA:Option Addr}{fv:Int}(h:VDat w p D gs gn gf hA cs cn cf hc fv){g':Nat}(hg:hA.map Addr.block=some g'):p≠g'∧gs≠g'∧gn≠g'∧gf≠g':=by
 rcases h.held.2 with⟨h2,_⟩|⟨g,cap,cur,hv,hb',hh',r⟩
 ·injection h2 with h2;subst h2;cases hg
 ·injection hv with hv;subst hv;injection hg with hg;subst hg;have hr:=Row.of_blk (show Blk w g 226 cur from hh');exact⟨Row.ne_ (Row.of_blk h.blk) hr (by decide),Row.ne_ h.safe hr (by decide),Row.ne_ h.now hr (by decide),Row.ne_ h.faults hr (by decide)⟩

theorem own_some {w:World}{e:TypeId}{size n:Nat}{v:Value}{xs:List Value}(h:w.ownsRow 0 e size v n xs)(hn:n≠0):∃ g c cur,v= .slice (some ⟨g,0,none⟩) n c∧n≤c∧Blk w g e cur:=by
 rcases h.2 with⟨_,h2⟩|⟨g,cap,cur,hv,hb',hh',h1,r⟩
 ·exact absurd h2 hn
 ·exact⟨g,cap,cur,hv,h1,hh'⟩
def Turned (w w':World)(F:List Nat)(p:Nat)(D':Dk):Prop:=∃ F',VD w' F' p D'∧(∀ x∈F',x∈F∨w.heap.size≤x)∧Kept F w w'

theorem wrote_at {w w2 w3 w4:World}{p gs gn gf cs cn cf hc g4 c4 i g:Nat}{T:Dk}{hA:Option Addr}{fv:Int}{F:List Nat}{bs:List UInt8}{bc cc:List Value}(ho:T.ok)(hD:VDat w2 p T gs gn gf hA cs cn cf hc fv)(hF:F=feet p gs gn gf hA)
  (k2:Kept [p] w w2) (k3:Kept [] w2 w3) (k4:Kept (Value.slice hA T.held.length hc).ownBlock.toList w3 w4) (hown:w4.ownsRow 0 226 65 (.slice (some ⟨g4,0,none⟩) (T.held.length+1) c4) (T.held.length+1) (heldCells T.held++cc))
  (hat:(Value.slice (some ⟨g4,0,none⟩) (T.held.length+1) c4).ownBlock=(Value.slice hA T.held.length hc).ownBlock∨(Value.slice (some ⟨g4,0,none⟩) (T.held.length+1) c4).ownBlock=some w3.heap.size)
  (hcc:Value.int .i64 (i:Int)::bc=cc) (hbc:bs.map B=bc) (hl:bc.length=64) (hi:i<T.n) (hr:Row w2 g 226 cc) (hgf:∀ x∈F,x<g) (hok:Dk.ok {T with held:=T.held++[(i,bs)]}):
  let w5:=w4.setCell ⟨p,2,none⟩ (.slice (some ⟨g4,0,none⟩) (T.held.length+1) c4)
  (w5.cell? ⟨p,1,none⟩=some (.slice (some ⟨gn,0,none⟩) T.n cn)∧w5.rangeAt g 1 bc∧w5.there gn (i*64) 64)∧((w5.drew.setCells gn (i*64) bc).cell? ⟨p,1,none⟩=some (.slice (some ⟨gn,0,none⟩) T.n cn)∧(w5.drew.setCells gn (i*64) bc).rangeAt g 1 bc∧(w5.drew.setCells gn (i*64) bc).there gn (i*64) 64)∧Turned w (w5.drew.setCells gn (i*64) bc) F p {T with held:=T.held++[(i,bs)]}:=by
 intro w5;have d3:=hD.kept k3 (by simp)
 have ha:∀ x,(∀ g',hA.map Addr.block=some g'→x≠g')→x∉(Value.slice hA T.held.length hc).ownBlock.toList:=by
  intro x hx hm
  cases hA with
  | none=>simp [Value.ownBlock]at hm
  | some ad'=>
   simp [Value.ownBlock]at hm
   exact hx _ rfl hm
 have hp4:=ha p (fun g' hg=>(d3.held_ne hg).1);have hs4:=ha gs (fun g' hg=>(d3.held_ne hg).2.1);have hn4:=ha gn (fun g' hg=>(d3.held_ne hg).2.2.1);have hf4:=ha gf (fun g' hg=>(d3.held_ne hg).2.2.2)
 have hg4:=ha g (fun g' hg e=>by
  have:=hgf g' (by rw[hF];simp [feet,hg])
  omega)
 have b4:=k4.blk d3.blk hp4;have s4:=d3.safe.kept k4 hs4;have n4:=d3.now.kept k4 hn4;have f4:=d3.faults.kept k4 hf4;have r4:=(hr.kept k3 (by simp)).kept k4 hg4
 have b5:Blk w5 p 141 #[.slice (some ⟨gs,0,none⟩) T.n cs,.slice (some ⟨gn,0,none⟩) T.n cn,.slice (some ⟨g4,0,none⟩) (T.held.length+1) c4,.slice (some ⟨gf,0,none⟩) T.n cf,.int .i64 fv,.int .i64 T.acts,.bool T.off]:=by
  have:=b4.set_ 2 (.slice (some ⟨g4,0,none⟩) (T.held.length+1) c4)
  simpa using this
 have hgp:g≠p:=Row.ne_ r4 (Row.of_blk b4) (by decide);have hsp:gs≠p:=Row.ne_ s4 (Row.of_blk b4) (by decide);have hnp:gn≠p:=Row.ne_ n4 (Row.of_blk b4) (by decide);have hfp:gf≠p:=Row.ne_ f4 (Row.of_blk b4) (by decide);have hfn:gf≠gn:=Row.ne_ f4 n4 (by decide);have k5:Kept [p] w4 w5:=(Kept.refl _ _).set_ (.inl (by simp)) _ _;have r5:=r4.kept k5 (by simpa using hgp);have s5:=s4.kept k5 (by simpa using hsp);have n5:=n4.kept k5 (by simpa using hnp);have f5:=f4.kept k5 (by simpa using hfp);have hcl:bc.length=64:=hl
 have hnl:(T.now.map B).length=64*T.n:=by rw[List.length_map];exact ho.now
 have k6:Kept [gn] w5 (w5.drew.setCells gn (i*64) bc):=kept_setCells gn bc (i*64) w5 _ ((Kept.refl _ _).drew);have n6:=n5.drew.setCells (i*64) bc (by rw[hnl];omega);have hgn:g≠gn:=Row.ne_ r5 n5 (by decide);have r6:=r5.kept k6 (by simpa using hgn);have b6:=k6.blk b5 (by simpa using Ne.symm hnp)
 have rg:∀ W,Row W g 226 cc→W.rangeAt g 1 bc:=fun W hW=>by
  have:=hW.range 1 64
  rw[←hcc,List.drop_one,List.tail_cons,List.take_of_length_le (by omega)]at this;exact this
 refine⟨⟨b5.cell 1,rg _ r5,n5.there _ _ (by rw[hnl];omega)⟩,⟨b6.cell 1,rg _ r6,n6.there _ _ (by rw[lay_length _ _ _ (by rw[hnl];omega),hnl];omega)⟩,?_⟩;obtain⟨g4',c4',cur4,hv4,_,hb4⟩:=own_some hown (by omega);injection hv4 with hv4 _ _;injection hv4 with hv4;injection hv4 with hv4;subst hv4;have hr4:=Row.of_blk hb4;have h4p:g4≠p:=Row.ne_ hr4 (Row.of_blk b4) (by decide);have h4n:g4≠gn:=Row.ne_ hr4 n4 (by decide)
 have hsub:∀ x∈feet p gs gn gf (some ⟨g4,0,none⟩),x∈F∨w.heap.size≤x:=by
  intro x hx;simp only[feet,List.mem_cons,Option.map_some,Option.toList_some,List.not_mem_nil,or_false]at hx
  rcases hx with rfl|rfl|rfl|rfl|rfl
  ·exact .inl (by rw[hF];simp [feet])
  ·exact .inl (by rw[hF];simp [feet])
  ·exact .inl (by rw[hF];simp [feet])
  ·exact .inl (by rw[hF];simp [feet])
  ·rcases hat with hat|hat
   ·cases hA with
    | none=>simp [Value.ownBlock]at hat
    | some ad'=>
     simp [Value.ownBlock]at hat
     exact .inl (by rw[hF];simp [feet,hat])
   ·simp [Value.ownBlock]at hat
    have h1:=k2.size;have h2:=k3.size;exact .inr (by omega)
 refine⟨feet p gs gn gf (some ⟨g4,0,none⟩),⟨hok,gs,gn,gf,some ⟨g4,0,none⟩,cs,cn,cf,c4,fv,⟨?_,s5.kept k6 (by simpa using hD.ne),?_,hD.ne,f5.kept k6 (by simpa using hfn),?_,hD.lo,hD.hi,hD.fuse,hD.cs1,hD.cn1,hD.cf1⟩,rfl⟩,hsub,?_⟩
 ·have:=b6
  show Blk _ _ _ #[_,_,.slice _ (T.held++[(i,bs)]).length _,_,_,_,_];rw[List.length_append,List.length_singleton];exact this
 ·show Row _ _ _ ((layH T.safe (T.held++[(i,bs)])).map B);rw[layH_snoc,lay_map,hbc];show Row _ _ _ (lay (T.now.map B) (64*i) bc);rw[Nat.mul_comm 64 i];exact n6
 ·show World.ownsRow _ 0 _ 65 (.slice _ (T.held++[(i,bs)]).length _) (T.held++[(i,bs)]).length (heldCells (T.held++[(i,bs)]));rw[List.length_append,List.length_singleton,heldCells_snoc]
  have e:(I ((i,bs):Nat×List UInt8).1::((i,bs):Nat×List UInt8).2.map B)=cc:=by rw[←hcc,←hbc];rfl
  rw[e];exact own_kept (own_kept hown k5 (fun z hz hm=>by simp at hz hm;omega)) k6 (fun z hz hm=>by simp at hz hm;omega)
 ·have kf:∀ x∈[p],x∈F∨w.heap.size≤x:=fun x hx=> .inl (by rw[hF];simp at hx;simp [feet,hx])
  have ka:=(((k2.mono kf).trans k3 (by simp)).trans k4 (fun x hx=> .inl (by
   rw[hF]
   cases hA with
   | none=>simp [Value.ownBlock]at hx
   | some ad'=>
    simp [Value.ownBlock]at hx
    simp [feet,hx])))
  exact(ka.trans k5 kf).trans k6 (fun x hx=> .inl (by rw[hF];simp at hx;simp [feet,hx]))

theorem write_ok (p:Nat)(F:List Nat)(D:Dk)(x:Int)(A:Option Addr)(c:Nat)(bs:List UInt8)(w:World)(h:VD w F p D)(hb:D.acts<1000000)(hv:Vals w F A (bs.map B))(hl:bs.length=64)(hx:D.has x=true)(ht:D.tick=true):
  Calls Tryz.prog 73 #[.pointer (some ⟨p,0,none⟩),.int .i64 x,.slice A 64 c] w fun e w'=>
  e= .returned (.int .i64 0)∧Turned w w' F p {D.ticked with held:=D.ticked.held++[(x.toNat,bs)]}:=by
 have H:=hide h;have HQ:=hide hx;have HT:=hide ht;obtain⟨i,rfl,hi⟩:=has_nat hx;rw[Int.toNat_natCast];obtain⟨ad,rfl,hz1,hz2⟩:=hv 0 (B bs[0]) (by rw[List.getElem?_map,List.getElem?_eq_getElem (by omega)];rfl);have hat:=array_at (some ad) c;have HV:=hide hv;have HL:Hid ((bs.map B).length=64):=hide (by simpa using hl);have HM:=hide h.mem
 have HDK:Hid (Dk.ok {D.ticked with held:=D.ticked.held++[(i,bs)]}):=hide (by
  have h1:=h.1.wrote (at_:=i) hx hl;rw[Int.toNat_natCast]at h1;rw[ticked_same.2.1]
  exact h1)
 have HCW:=hide (show ∀ v∈(Value.int .i64 (i:Int)::bs.map B),v.oneCell'=true from oneCell_write i bs);clear hz1 hz2 hv h hl hx ht;generalize hbc:bs.map B=bc at HV HL HCW;have HBC:=hide hbc;clear hbc;have HCL:Hid ((Value.int .i64 i::bc).length=65):=hide (by rw[List.length_cons,HL.out]);go_enter Tryz.func73,Tryz.ntmps73;go_wp2_with fail;refine(has_at p F D i _ H.out).mono ?_;rintro e w' ⟨rfl,rfl⟩;rw[HQ.out];go_wp2_with fail;refine(act_at p F D _ H.out hb).mono ?_;rintro e w1 ⟨rfl,hd,hk⟩;rw[HT.out];have HD:=hide hd;have HK:=hide hk;have HV1:=hide (HV.out.kept HK.out (fun z hz=>by simp at hz;subst hz;exact HM.out));clear hd hk
 have HLD:=hide (load_sec ad bc w1 HL.out (fun j v hv=>by
  obtain⟨ad',h1,_,h3⟩:=HV1.out j v hv;injection h1 with h1;subst h1
  exact h3))
 have HBW:=hide (build_write i bc w1 HL.out);have HZ:=hide (show(Tryz.prog.info? 226).map (fun i=>(i.zero.map fun z=>z.cells.size,i.size))=some (some (Value.int .i64 i::bc).length,(Value.int .i64 i::bc).length)by rw[HCL.out];exact write_z)
 go_wp2_with (first
  | (with_reducible refine wpList_value (o:=⟨some 23,_,_,_,_,_⟩) rfl (exec_load 224 (.tmp 22) rfl ad rfl HLD.out) ?_;simp only[Act.put,List.setIfInBounds_toArray,List.set_cons_zero,List.set_cons_succ])
  | (with_reducible refine wpList_value (o:=⟨some 24,_,_,_,_,_⟩) rfl (exec_build2 226 (.tmp 20) (.tmp 23) rfl (.int .i64 i) (.agg bc.toArray) ?_ ?_ HBW.out) ?_;(· go_simp);(· go_simp);simp only[Act.put,List.setIfInBounds_toArray,List.set_cons_zero,List.set_cons_succ])
  | (with_reducible refine wpList_alloc_store (o:=⟨some 7,_,_,_,_,_⟩) rfl rfl 226 (.tmp 7) (.tmp 24) rfl rfl (Value.int .i64 i::bc) HZ.out ?_ ?_ HCW.out ?_;(· intro v;go_simp);(· intro v;go_simp);simp only[Act.put,List.setIfInBounds_toArray,List.set_cons_zero,List.set_cons_succ]))
 obtain⟨ho,gs,gn,gf,hA,cs,cn,cf,hc,fv,hD,hF⟩:=HD.out;have HVD:=hide hD;have HF:=hide hF;have HOK:=hide ho;have R2:Hid (Row (w1.alloc (.cells (Value.int .i64 (i:Int)::bc).toArray 226)) w1.heap.size 226 (Value.int .i64 (i:Int)::bc)):=hide (by have:=Row.of_blk (Blk.new w1 226 (Value.int .i64 (i:Int)::bc).toArray);simpa using this);have D2:=hide (hD.kept ((Kept.refl [] w1).alloc (.cells (Value.int .i64 (i:Int)::bc).toArray 226)) (by simp));have K2:=hide (HK.out.alloc (.cells (Value.int .i64 (i:Int)::bc).toArray 226))
 have hgl:w1.heap.size<(w1.alloc (.cells (Value.int .i64 (i:Int)::bc).toArray 226)).heap.size:=by simp
 have HGN:Hid (w.heap.size≤w1.heap.size):=hide HK.out.size;have HGF:Hid (∀ x∈F,x<w1.heap.size):=hide HD.out.lt;clear hD hF ho HLD HBW HZ HV1 HD HK hat;generalize hw2:w1.alloc (.cells (Value.int .i64 (i:Int)::bc).toArray 226)=w2 at*;clear hw2;generalize w1.heap.size=g at*;generalize hcc:(Value.int .i64 (i:Int)::bc)=cc at*;have HCC:=hide hcc;clear hcc;have c2:w2.cell? ⟨p,2,none⟩=some (.slice hA D.ticked.held.length hc):=D2.out.blk.cell 2;have f2:=D2.out.blk.frozen 2;refine wp_region_any (by kernel_rfl) ?_;change wpAny _ _ _ _ _ _ _ (World.drew _);refine wpAny_take (i:=0) (v:=Value.pointer (some ⟨p,0,none⟩)) rfl (by kernel_rfl) (by kernel_rfl) (by kernel_rfl) (fun _ _ _ h=>h) (Or.inl ⟨by rfl,?_⟩) ?_
 ·intro W;go_simp
 simp only[Act.put,List.setIfInBounds_toArray,List.set_cons_zero,List.set_cons_succ];refine wpAny_take (i:=1) (v:=Value.pointer (some ⟨p,0,none⟩)) rfl (by kernel_rfl) (by kernel_rfl) (by kernel_rfl) (fun _ _ _ h=>h) (Or.inl ⟨by rfl,?_⟩) ?_
 ·intro W;go_simp
 simp only[Act.put,List.setIfInBounds_toArray,List.set_cons_zero,List.set_cons_succ];refine wpAny_take (i:=2) (v:=Value.pointer (some ⟨p,0,none⟩)) rfl (by kernel_rfl) (by kernel_rfl) (by kernel_rfl) (fun _ _ _ h=>h) (Or.inl ⟨by rfl,?_⟩) ?_
 ·intro W;go_simp
 simp only[Act.put,List.setIfInBounds_toArray,List.set_cons_zero,List.set_cons_succ];refine wpAny_take (i:=3) (v:=Value.pointer (some ⟨p,2,none⟩)) rfl (by kernel_rfl) (by kernel_rfl) (by kernel_rfl) (fun _ _ _ h=>h) (Or.inl ⟨by rfl,?_⟩) ?_
 ·intro W;go_simp
 simp only[Act.put,List.setIfInBounds_toArray,List.set_cons_zero,List.set_cons_succ];have hplt:=D2.out.blk.lt;have c2a:(w2.alloc (.cells cc.toArray 226)).drew.cell? ⟨p,2,none⟩=some (.slice hA D.ticked.held.length hc):=(D2.out.blk.alloc _).cell 2;have O3:Hid ((w2.alloc (.cells cc.toArray 226)).drew.ownsRow 0 226 65 (.slice hA D.ticked.held.length hc) D.ticked.held.length (heldCells D.ticked.held)):=hide (own_kept D2.out.held (((Kept.refl [] w2).alloc _).drew) (by simp))
 have V3:Hid (Vals (w2.alloc (.cells cc.toArray 226)).drew [] (some ⟨w2.heap.size,0,none⟩) cc):=hide (by
  have:=Row.of_blk (Blk.new w2 226 cc.toArray)
  exact this.drew.vals0 (by simp))
 have D3:=hide (D2.out.kept (((Kept.refl [] w2).alloc (.cells cc.toArray 226)).drew) (by simp));have HI:Hid (i<D.ticked.n):=hide (by rw[ticked_n];exact hi)
 have hfew:D.ticked.held.length≤1000001:=by
  have h1:=HOK.out.few;have h2:=(@ticked_same D).2.2.2
  omega
 refine wpAny_two (i:=4) (j:=5) (o:=⟨some 29,.load 139 (.tmp 28),_,_,_,none⟩) (o2:=⟨some 30,.load 226 (.tmp 7),_,_,_,none⟩) (by kernel_rfl) rfl rfl (by rfl) (by rfl) (fun K hK=> ?pa) (fun K hK=> ?pb)
 case' pa=>
  go_simp;refine hK _ _ ?_;clear hK K;refine wpAny_one (i:=5) (o:=⟨some 30,.load 226 (.tmp 7),_,_,_,none⟩) (by kernel_rfl) rfl (by rfl) (fun K hK=> ?_);refine wp_value (exec_load 226 (.tmp 7) rfl ⟨g,0,none⟩ (by go_simp) (load_row 226 226 _ g cc 0 cc R2.out.drew (by simp) Tryz.underlying226 rfl (by rw[HCL.out];exact write_size))) ?_;simp only[Act.put,List.setIfInBounds_toArray,List.set_cons_zero,List.set_cons_succ];refine hK _ _ ?_;clear hK K;refine wpAny_one (i:=6) (o:=⟨some 31,.buildSlice 139 1 #[(0,.tmp 30)],_,_,_,none⟩) (by kernel_rfl) rfl (by rfl) (fun K hK=> ?_);refine wp_value (exec_buildSlice1 139 (.tmp 30) rfl (.agg cc.toArray) (by go_simp) (build_writes cc _ HCL.out)) ?_;simp only[Act.put,List.setIfInBounds_toArray,List.set_cons_zero,List.set_cons_succ];refine hK _ _ ?_;clear hK K
 case' pb=>
  refine wp_value (exec_load 226 (.tmp 7) rfl ⟨g,0,none⟩ (by go_simp) (load_row 226 226 _ g cc 0 cc R2.out.drew (by simp) Tryz.underlying226 rfl (by rw[HCL.out];exact write_size))) ?_;simp only[Act.put,List.setIfInBounds_toArray,List.set_cons_zero,List.set_cons_succ];refine hK _ _ ?_;clear hK K;refine wpAny_two (i:=4) (j:=6) (o:=⟨some 29,.load 139 (.tmp 28),_,_,_,none⟩) (o2:=⟨some 31,.buildSlice 139 1 #[(0,.tmp 30)],_,_,_,none⟩) (by kernel_rfl) rfl rfl (by rfl) (by rfl) (fun K hK=> ?pc) (fun K hK=> ?pd)
 case' pc=>
  go_simp;refine hK _ _ ?_;clear hK K;refine wpAny_one (i:=6) (o:=⟨some 31,.buildSlice 139 1 #[(0,.tmp 30)],_,_,_,none⟩) (by kernel_rfl) rfl (by rfl) (fun K hK=> ?_);refine wp_value (exec_buildSlice1 139 (.tmp 30) rfl (.agg cc.toArray) (by go_simp) (build_writes cc _ HCL.out)) ?_;simp only[Act.put,List.setIfInBounds_toArray,List.set_cons_zero,List.set_cons_succ];refine hK _ _ ?_;clear hK K
 case' pd=>
  refine wp_value (exec_buildSlice1 139 (.tmp 30) rfl (.agg cc.toArray) (by go_simp) (build_writes cc _ HCL.out)) ?_;simp only[Act.put,List.setIfInBounds_toArray,List.set_cons_zero,List.set_cons_succ];refine hK _ _ ?_;clear hK K;refine wpAny_one (i:=4) (o:=⟨some 29,.load 139 (.tmp 28),_,_,_,none⟩) (by kernel_rfl) rfl (by rfl) (fun K hK=> ?_);go_simp;refine hK _ _ ?_;clear hK K
 all_goals
  refine wpAny_one (i:=7) (o:=⟨some 32,.call {callee:= .builtin .append,args:=#[.tmp 29,.tmp 31],argTypes:=#[139,139]},_,_,_,none⟩) (by kernel_rfl) rfl (by rfl) (fun K hK=> ?_);refine wp_append_vals (.tmp 29) (.tmp 31) 139 rfl 0 226 writeZero 65 72 Tryz.underlying139 info_wr writeZero_size (by omega) (.slice hA D.ticked.held.length hc) D.ticked.held.length (heldCells D.ticked.held) (by go_simp) O3.out [] (some ⟨w2.heap.size,0,none⟩) 1 1 cc (by go_simp) HCL.out V3.out HCW.out (by simp only[maxLen];omega) (by omega) (Nat.zero_le _) ?_;intro v4 w4 hown hk4 hat;simp only[Act.put,List.setIfInBounds_toArray,List.set_cons_zero,List.set_cons_succ];refine hK _ _ ?_;clear hK K;obtain⟨g4,c4,cur4,rfl,hc4,hb4⟩:=own_some hown (by omega);have HOW:=hide hown;have HK4:=hide hk4;have HAT:=hide hat
  have hpn:p∉(Value.slice hA D.ticked.held.length hc).ownBlock.toList:=by
   intro hm
   cases hA with
   | none=>simp [Value.ownBlock]at hm
   | some ad'=>
    simp [Value.ownBlock]at hm
    exact(D3.out.held_ne (g':=ad'.block) rfl).1 hm
  have HPN:=hide hpn;have B4:=hide (hk4.blk D3.out.blk hpn);have c24:w4.cell? ⟨p,2,none⟩=some (.slice hA D.ticked.held.length hc):=B4.out.cell 2;have f24:=B4.out.frozen 2;clear hown hk4 hat hb4 hpn;refine wpAny_one (i:=8) (o:=⟨some 33,.nilCheck (.tmp 25),_,_,_,none⟩) (by kernel_rfl) rfl (by rfl) (fun K hK=> ?_);go_simp;refine hK _ _ ?_;clear hK K;refine wpAny_one (i:=9) (o:=⟨some 34,.fieldAddr 141 (.tmp 33) 2,_,_,_,none⟩) (by kernel_rfl) rfl (by rfl) (fun K hK=> ?_);go_simp;refine hK _ _ ?_;clear hK K;refine wpAny_one (i:=10) (o:=⟨none,.store 139 (.tmp 34) (.tmp 32),_,_,_,none⟩) (by kernel_rfl) rfl (by rfl) (fun K hK=> ?_);go_simp;refine hK _ _ ?_;clear hK K;refine wpAny_done (by kernel_rfl) ?_ _;go_wp2;have HW:=hide (wrote_at HOK.out D2.out HF.out K2.out (((Kept.refl [] w2).alloc (.cells cc.toArray 226)).drew) HK4.out HOW.out HAT.out HCC.out HBC.out HL.out HI.out R2.out HGF.out HDK.out);obtain⟨⟨s1,s2,s3⟩,hs6,hfin⟩:=HW.out;have HS6:=hide hs6;have HFin:=hide hfin;clear hs6 hfin HW HOW HK4 HAT c24 f24 B4;generalize w4.setCell ⟨p,2,none⟩ (.slice (some ⟨g4,0,none⟩) (D.ticked.held.length+1) c4)=w5 at*;have HBL:=HL.out
  have hsz:(Tryz.prog.info? 224).map (·.size)=some bc.length:=by rw[HBL];exact sec_size
  have hoc:∀ v∈bc,v.oneCell'=true:=by rw[←HBC.out];exact oneCell_B bs
  have hau:=arr_under
  have gi1:(0:Int)≤i:=by omega
  have gi2:(i:Int)<D.ticked.n:=by have:=HI.out;omega
  go_region_held3 (fun W=>W.cell? ⟨p,1,none⟩=some (.slice (some ⟨gn,0,none⟩) D.ticked.n cn)∧W.rangeAt g 1 bc∧W.there gn (i*64) 64)
   (first|exact⟨s1,s2,s3⟩|exact HS6.out) (fail)
  go_wp2;go_ret;exact⟨rfl,HFin.out⟩
end Go.Proofs.YtjkmahmoclobmaaGreat.disk
namespace Go.Proofs.YtjkmahmoclobmaaGreat.disk
open Go.RowKit mem base
theorem Turned.same {w:World}{F:List Nat}{p:Nat}{D:Dk}(h:VD w F p D):Turned w w F p D:=⟨F,h,fun _ hx=> .inl hx,Kept.refl _ _⟩
theorem Turned.of_kept {w w':World}{F S:List Nat}{p:Nat}{D:Dk}(h:VD w' F p D)(k:Kept S w w')(hs:∀ x∈S,x∈F):Turned w w' F p D:=⟨F,h,fun _ hx=> .inl hx,k.mono (fun x hx=> .inl (hs x hx))⟩

theorem write_bad (p:Nat)(F:List Nat)(D:Dk)(x:Int)(A:Option Addr)(n c:Nat)(w:World)(h:VD w F p D)(hx:D.has x=false∨n≠64):
  Calls Tryz.prog 73 #[.pointer (some ⟨p,0,none⟩),.int .i64 x,.slice A n c] w fun e w'=>e= .returned (.int .i64 1)∧w=w':=by
 have H:=hide h;clear h;obtain⟨q,hq⟩:∃ q,D.has x=q:=⟨_,rfl⟩;have HQ:=hide hq;rw[hq]at hx;clear hq;cases q
 ·clear hx;go_enter Tryz.func73,Tryz.ntmps73;go_wp2_with fail;refine(has_at p F D x _ H.out).mono ?_;rintro e w' ⟨rfl,rfl⟩;rw[HQ.out];go_wp2;go_ret;exact⟨rfl,rfl⟩
 ·have hn:(n:Int)≠64:=by
   rcases hx with hx|hx
   ·cases hx
   ·omega
  clear hx;go_enter Tryz.func73,Tryz.ntmps73;go_wp2_with fail;refine(has_at p F D x _ H.out).mono ?_;rintro e w' ⟨rfl,rfl⟩;rw[HQ.out];go_wp2;go_ret;exact⟨rfl,rfl⟩

theorem write_off (p:Nat)(F:List Nat)(D:Dk)(x:Int)(A:Option Addr)(c:Nat)(w:World)(h:VD w F p D)(hb:D.acts<1000000)(hx:D.has x=true)(ht:D.tick=false):
  Calls Tryz.prog 73 #[.pointer (some ⟨p,0,none⟩),.int .i64 x,.slice A 64 c] w fun e w'=>e= .returned (.int .i64 3)∧Turned w w' F p D.ticked:=by
 have H:=hide h;have HQ:=hide hx;have HT:=hide ht;have HM:=hide h.mem;clear h hx ht;go_enter Tryz.func73,Tryz.ntmps73;go_wp2_with fail;refine(has_at p F D x _ H.out).mono ?_;rintro e w' ⟨rfl,rfl⟩;rw[HQ.out];go_wp2_with fail;refine(act_at p F D _ H.out hb).mono ?_;rintro e w1 ⟨rfl,hd,hk⟩;rw[HT.out];go_wp2;go_ret;exact⟨rfl,Turned.of_kept hd hk (fun z hz=>by simp at hz;subst hz;exact HM.out)⟩

theorem write_at (p:Nat)(F:List Nat)(D:Dk)(x:Int)(A:Option Addr)(n c:Nat)(bs:List UInt8)(w:World)(h:VD w F p D)(hb:D.acts<1000000)(hv:Vals w F A (bs.map B))(hl:bs.length=n):
  Calls Tryz.prog 73 #[.pointer (some ⟨p,0,none⟩),.int .i64 x,.slice A n c] w fun e w'=>e= .returned (.int .i64 (D.write x bs).1)∧Turned w w' F p (D.write x bs).2:=by
 by_cases hx:D.has x=false∨n≠64
 ·have e1:D.write x bs=(1,D):=by
   unfold Dk.write;rw[if_neg];intro hc;simp at hc
   rcases hx with hx|hx
   ·rw[hx]at hc;exact absurd hc.1 (by simp)
   ·exact hx (by omega)
  rw[e1]
  exact(write_bad p F D x A n c w h hx).mono fun e w' ⟨he,hw⟩=>⟨he,by subst hw;exact Turned.same h⟩
 ·have hx1:D.has x=true:=by
   cases hq:D.has x
   ·exact absurd (.inl hq) hx
   ·rfl
  have hn:n=64:=by
   rcases Nat.decEq n 64 with h|h
   ·exact absurd (.inr h) hx
   ·exact h
  subst hn
  have hc:(D.has x&&bs.length==64)=true:=by rw[hx1,hl];rfl
  cases ht:D.tick
  ·have e1:D.write x bs=(3,D.ticked):=by
    unfold Dk.write;rw[if_pos hc,ht]
    rfl
   rw[e1];exact write_off p F D x A c w h hb hx1 ht
  ·have e1:D.write x bs=(0,{D.ticked with held:=D.ticked.held++[(x.toNat,bs)]}):=by
    unfold Dk.write;rw[if_pos hc,ht,ticked_same.2.1]
    rfl
   rw[e1];exact write_ok p F D x A c bs w h hb hv hl hx1 ht
end Go.Proofs.YtjkmahmoclobmaaGreat.disk
namespace Go.Proofs.YtjkmahmoclobmaaGreat.disk
open Go.RowKit mem base
theorem flush_off (p:Nat)(F:List Nat)(D:Dk)(w:World)(h:VD w F p D)(hb:D.acts<1000000)(ht:D.tick=false):
  Calls Tryz.prog 75 #[.pointer (some ⟨p,0,none⟩)] w fun e w'=>e= .returned (.int .i64 3)∧Turned w w' F p D.ticked:=by
 have H:=hide h;have HT:=hide ht;have HM:=hide h.mem;clear h ht;go_enter Tryz.func75,Tryz.ntmps75;go_wp2_with fail;refine(act_at p F D _ H.out hb).mono ?_;rintro e w1 ⟨rfl,hd,hk⟩;rw[HT.out];go_wp2;go_ret;exact⟨rfl,Turned.of_kept hd hk (fun z hz=>by simp at hz;subst hz;exact HM.out)⟩

theorem own_addr {w:World}{e:TypeId}{size n m c:Nat}{A:Option Addr}{xs:List Value}(h:w.ownsRow 0 e size (.slice A m c) n xs)(hn:n≠0):∃ g,A=some ⟨g,0,none⟩∧Row w g e xs∧n≤c:=by
 obtain⟨g,cap,hv,_,hc,hr⟩:=row_of_own h (by
  rcases h.2 with⟨_,h2⟩|⟨g,cap,cur,hv,_⟩
  ·exact absurd h2 hn
  ·rw[hv];simp [Value.ownBlock])
 simp only[Value.slice.injEq]at hv;exact⟨g,hv.1,hr,by omega⟩
structure Half (w:World)(p:Nat)(T:Dk)(gs gn gf:Nat)(hA:Option Addr)(cs cn cf hc:Nat)(fv:Int)(k:Nat):Prop where
 blk:Blk w p 141 #[.slice (some ⟨gs,0,none⟩) T.n cs,.slice (some ⟨gn,0,none⟩) T.n cn,.slice hA T.held.length hc,.slice (some ⟨gf,0,none⟩) T.n cf,.int .i64 fv,.int .i64 T.acts,.bool T.off]
 safe:Row w gs 224 ((layH T.safe (T.held.take k)).map B)
 now:Row w gn 224 (T.now.map B)
 faults:Row w gf 4 (T.faults.map Value.bool)
 held:w.ownsRow 0 226 65 (.slice hA T.held.length hc) T.held.length (heldCells T.held)

theorem half_step {w:World}{p gs gn gf cs cn cf hc k:Nat}{T:Dk}{hA:Option Addr}{fv:Int}(ho:T.ok)(hsn:gs≠gn)(h:Half w p T gs gn gf hA cs cn cf hc fv k)(hk:k<T.held.length){a:Nat}{bs:List UInt8}{bc cc:List Value}(hx:T.held[k]=(a,bs))(hbc:bs.map B=bc)(hcc:Value.int .i64 (a:Int)::bc=cc):
  let w5:=w.alloc (.cells cc.toArray 226)
  let w6:=w5.drew.setCells gs (a*64) bc
  (w5.cell? ⟨p,0,none⟩=some (.slice (some ⟨gs,0,none⟩) T.n cs)∧w5.cell? ⟨w.heap.size,0,none⟩=some (.int .i64 a)∧w5.rangeAt w.heap.size 1 bc∧w5.there gs (a*64) 64)∧
   (w6.cell? ⟨p,0,none⟩=some (.slice (some ⟨gs,0,none⟩) T.n cs)∧w6.cell? ⟨w.heap.size,0,none⟩=some (.int .i64 a)∧w6.rangeAt w.heap.size 1 bc∧w6.there gs (a*64) 64)∧
   Half w6 p T gs gn gf hA cs cn cf hc fv (k+1)∧Kept [gs] w w6:=by
 intro w5 w6;have hm:=ho.held _ (List.getElem_mem hk);rw[hx]at hm
 have hbl:bc.length=64:=by rw[←hbc,List.length_map];exact hm.2
 have hai:a<T.n:=hm.1;have k5:Kept [] w w5:=(Kept.refl [] w).alloc _
 have r5:Row w5 w.heap.size 226 cc:=by
  have:=Row.of_blk (Blk.new w 226 cc.toArray)
  simpa using this
 have b5:=k5.blk h.blk (by simp);have s5:=h.safe.kept k5 (by simp);have n5:=h.now.kept k5 (by simp);have f5:=h.faults.kept k5 (by simp);have o5:=own_kept h.held k5 (by simp)
 have hsl:((layH T.safe (T.held.take k)).map B).length=64*T.n:=by
  rw[List.length_map];exact layH_length _ _ _ ho.safe (fun x hx=>ho.held x (List.mem_of_mem_take hx))
 have k6:Kept [gs] w5 w6:=kept_setCells gs bc (a*64) w5 _ ((Kept.refl _ _).drew);have s6:=s5.drew.setCells (a*64) bc (by rw[hsl];omega);have hsp:gs≠p:=Row.ne_ s5 (Row.of_blk b5) (by decide)
 have hsg:gs≠w.heap.size:=by have:=h.safe.lt;omega
 have hsf:gs≠gf:=Row.ne_ s5 f5 (by decide);have b6:=k6.blk b5 (by simpa using Ne.symm hsp);have r6:=r5.kept k6 (by simpa using Ne.symm hsg)
 have c0:cc[0]? = some (.int .i64 a):=by rw[←hcc];rfl
 have rg:∀ W,Row W w.heap.size 226 cc→W.rangeAt w.heap.size 1 bc:=fun W hW=>by
  have:=hW.range 1 64
  rw[←hcc,List.drop_one,List.tail_cons,List.take_of_length_le (by omega)]at this;exact this
 refine⟨⟨b5.cell 0,r5.cell c0,rg _ r5,s5.there _ _ (by rw[hsl];omega)⟩,⟨b6.cell 0,r6.cell c0,rg _ r6,s6.there _ _ (by rw[lay_length _ _ _ (by rw[hsl];omega),hsl];omega)⟩,⟨b6,?_,n5.kept k6 (by simpa using Ne.symm hsn),f5.kept k6 (by simpa using Ne.symm hsf),own_kept o5 k6 (fun g hg hm=> ?_)⟩,k5.mono (by simp) |>.trans k6 (by simp)⟩
 ·rw[layH_take _ _ _ hk,lay_map,hx,hbc,Nat.mul_comm 64];exact s6
 ·simp at hm;subst hm
  rcases o5.2 with⟨h2,_⟩|⟨g',cap,cur,hv,hb',hh',r⟩
  ·injection h2 with h2;subst h2;cases hg
  ·injection hv with hv;subst hv;injection hg with hg;subst hg;exact Row.ne_ (Row.of_blk (show Blk w5 g' 226 cur from hh')) s5 (by decide) rfl

theorem half_end {w w1 w2:World}{p gs gn gf cs cn cf hc k:Nat}{T:Dk}{hA:Option Addr}{fv:Int}{F:List Nat}(hD:VDat w1 p T gs gn gf hA cs cn cf hc fv)(hF:F=feet p gs gn gf hA)(h:Half w2 p T gs gn gf hA cs cn cf hc fv k)(hk:k=T.held.length)(k1:Kept [p] w w1)(k2:Kept [gs] w1 w2)
  (hok:Dk.ok {T with safe:=T.now,held:=[]}):Turned w (w2.setCell ⟨p,2,none⟩ (.slice none 0 0)) F p {T with safe:=T.now,held:=[]}:=by
 have k3:Kept [p] w2 (w2.setCell ⟨p,2,none⟩ (.slice none 0 0)):=(Kept.refl _ _).set_ (.inl (by simp)) _ _;have hsp:gs≠p:=Row.ne_ h.safe (Row.of_blk h.blk) (by decide);have hnp:gn≠p:=Row.ne_ h.now (Row.of_blk h.blk) (by decide);have hfp:gf≠p:=Row.ne_ h.faults (Row.of_blk h.blk) (by decide);refine⟨feet p gs gn gf none,⟨hok,gs,gn,gf,none,cs,cn,cf,0,fv,⟨?_,?_,?_,hD.ne,?_,⟨by simp [heldCells],.inl ⟨rfl,rfl⟩⟩,hD.lo,hD.hi,hD.fuse,hD.cs1,hD.cn1,hD.cf1⟩,rfl⟩,?_,?_⟩
 ·have:=h.blk.set_ 2 (.slice none 0 0)
  have h3:Blk (w2.setCell ⟨p,2,none⟩ (.slice none 0 0)) p 141 #[.slice (some ⟨gs,0,none⟩) T.n cs,.slice (some ⟨gn,0,none⟩) T.n cn,.slice none 0 0,.slice (some ⟨gf,0,none⟩) T.n cf,.int .i64 fv,.int .i64 T.acts,.bool T.off]:=by simpa using this
  exact h3
 ·have:=h.safe.kept k3 (by simpa using hsp)
  rw[hk,List.take_of_length_le (Nat.le_refl _)]at this;exact this
 ·exact h.now.kept k3 (by simpa using hnp)
 ·exact h.faults.kept k3 (by simpa using hfp)
 ·intro x hx;refine .inl ?_;rw[hF];simp only[feet,Option.map_none,Option.toList_none,List.mem_cons,List.not_mem_nil,or_false]at hx
  rcases hx with rfl|rfl|rfl|rfl<;>simp [feet]
 ·have kf:∀ x∈[p],x∈F∨w.heap.size≤x:=fun x hx=> .inl (by rw[hF];simp at hx;simp [feet,hx])
  exact((k1.mono kf).trans k2 (fun x hx=> .inl (by rw[hF];simp at hx;simp [feet,hx]))).trans k3 kf

theorem flush_ok (p:Nat)(F:List Nat)(D:Dk)(w:World)(h:VD w F p D)(hb:D.acts<1000000)(ht:D.tick=true):
  Calls Tryz.prog 75 #[.pointer (some ⟨p,0,none⟩)] w fun e w'=>e= .returned (.int .i64 0)∧Turned w w' F p {D.ticked with safe:=D.ticked.now,held:=[]}:=by
 have H:=hide h;have HT:=hide ht;have HM:=hide h.mem
 have HOK:Hid (Dk.ok {D.ticked with safe:=D.ticked.now,held:=[]}):=hide (by
  have h1:=h.1.flushed
  have e:D.ticked.now=D.now:=by unfold Dk.now;rw[ticked_same.1,ticked_same.2.1]
  rw[e]
  exact h1)
 clear h ht;go_enter Tryz.func75,Tryz.ntmps75;go_wp2_with fail;refine(act_at p F D _ H.out hb).mono ?_;rintro e w1 ⟨rfl,hd,hk⟩;rw[HT.out];obtain⟨ho,gs,gn,gf,hA,cs,cn,cf,hc,fv,hD,hF⟩:=hd;have h2:w1.cell? ⟨p,2,none⟩=some (.slice hA D.ticked.held.length hc):=hD.blk.cell 2
 have hfew:D.ticked.held.length≤1000001:=by
  have h1:=ho.few;have h2:=(@ticked_same D).2.2.2
  omega
 have HD:=hide hD;have HO:=hide ho;have HF:=hide hF;have HK:=hide hk;have H0:Hid (Half w1 p D.ticked gs gn gf hA cs cn cf hc fv 0):=hide ⟨hD.blk,hD.safe,hD.now,hD.faults,hD.held⟩;clear hD ho hF hk hb;generalize hT:D.ticked=T at*;have HTT:=hide hT;clear hT;have hau:=arr_under;go_wp2
 go_loopw [15] (fun i wr=>∃ k:Nat,k≤T.held.length∧i= .int .i64 k∧Hid (Half wr p T gs gn gf hA cs cn cf hc fv k)∧Hid (Kept [gs] w1 wr)) (fun i wr=>T.held.length-(intOf i).toNat)
 case atStart=>exact⟨0,Nat.zero_le _,rfl,H0,hide (Kept.refl _ _)⟩
 case round=>
  obtain⟨k,hk,rfl,HH,HKR⟩:=hrel
  by_cases hlt:k<T.held.length
  ·obtain⟨gh,rfl,hrow,hcl⟩:=own_addr HH.out.held (by omega);have hm:=HO.out.held _ (List.getElem_mem hlt);obtain⟨⟨a,bs⟩,hx⟩:∃ x:Nat×List UInt8,T.held[k]=x:=⟨_,rfl⟩;rw[hx]at hm
   have ga1:(0:Int)≤a:=by omega
   have ga2:(a:Int)<T.n:=by have:=hm.1;omega
   obtain⟨bc,hbc⟩:∃ bc,bs.map B=bc:=⟨_,rfl⟩;obtain⟨cc,hcc⟩:∃ cc,Value.int .i64 (a:Int)::bc=cc:=⟨_,rfl⟩
   have hbl:bc.length=64:=by rw[←hbc,List.length_map];exact hm.2
   have hccl:cc.length=65:=by rw[←hcc,List.length_cons,hbl]
   have HCL:=hide hccl;have hall:∀ x∈T.held,x.2.length=64:=fun x hx=>(HO.out.held x hx).2
   have hcut:((heldCells T.held).drop (k*65)).take cc.length=cc:=by
    rw[hccl,Nat.mul_comm,heldCells_at _ hall k hlt,hx,←hcc,←hbc]
    rfl
   have HLD:=hide (load_row 226 226 _ gh _ (k*65) cc hrow hcut Tryz.underlying226 rfl (by rw[hccl];exact write_size));have HZ:=hide (show(Tryz.prog.info? 226).map (fun i=>(i.zero.map fun z=>z.cells.size,i.size))=some (some cc.length,cc.length)by rw[hccl];exact write_z);have HOC:Hid (∀ v∈cc,v.oneCell'=true):=hide (by rw[←hcc,←hbc];exact oneCell_write a bs)
   have hoc:∀ v∈bc,v.oneCell'=true:=by rw[←hbc];exact oneCell_B bs
   have hsz:(Tryz.prog.info? 224).map (·.size)=some bc.length:=by rw[hbl];exact sec_size
   have HST:=hide (half_step HO.out HD.out.ne HH.out hlt hx hbc hcc);clear hm hall hrow hcut hccl hx;have HBC:=hide hbc;have HCC:=hide hcc;clear hbc hcc
   go_wp2_with (first
    | (with_reducible refine wpList_value (o:=⟨some 18,_,_,_,_,_⟩) rfl (exec_load 226 (.tmp 17) rfl ⟨gh,k*65,none⟩ ?_ HLD.out) ?_;(· go_simp);simp only[Act.put,List.setIfInBounds_toArray,List.set_cons_zero,List.set_cons_succ])
    | (with_reducible refine wpList_alloc_store (o:=⟨some 4,_,_,_,_,_⟩) rfl rfl 226 (.tmp 4) (.tmp 18) rfl rfl cc HZ.out ?_ ?_ HOC.out ?_;(· intro v;go_simp);(· intro v;go_simp);simp only[Act.put,List.setIfInBounds_toArray,List.set_cons_zero,List.set_cons_succ]))
   obtain⟨⟨s1,s2,s3,s4⟩,hs6,hfin,hkk⟩:=HST.out;have HS6:=hide hs6;have HFin:=hide hfin;have HKK:=hide hkk;clear hs6 hfin hkk HST HLD;generalize wr.alloc (.cells cc.toArray 226)=w5 at*;generalize wr.heap.size=g at*
   go_region_held3 (fun W=>W.cell? ⟨p,0,none⟩=some (.slice (some ⟨gs,0,none⟩) T.n cs)∧W.cell? ⟨g,0,none⟩=some (.int .i64 a)∧W.rangeAt g 1 bc∧W.there gs (a*64) 64)
    (first|exact⟨s1,s2,s3,s4⟩|exact HS6.out) (fail)
   go_wp2;go_roundw
   case rel=>exact⟨k+1,by omega,by go_num,HFin,hide (HKR.out.trans HKK.out (fun x hx=> .inl hx))⟩
   case measure=>simp [intOf];omega
  ·obtain rfl:k=T.held.length:=by omega
   have hcp:wr.cell? ⟨p,2,none⟩=some (.slice hA T.held.length hc):=HH.out.blk.cell 2;have hfp:=HH.out.blk.frozen 2;have HE:=hide (half_end HD.out HF.out HH.out rfl HK.out HKR.out HOK.out);go_wp2;go_ret;exact⟨rfl,by rw[HTT.out];exact HE.out⟩

theorem flush_at (p:Nat)(F:List Nat)(D:Dk)(w:World)(h:VD w F p D)(hb:D.acts<1000000):
  Calls Tryz.prog 75 #[.pointer (some ⟨p,0,none⟩)] w fun e w'=>e= .returned (.int .i64 D.flush.1)∧Turned w w' F p D.flush.2:=by
 cases ht:D.tick
 ·have e1:D.flush=(3,D.ticked):=by unfold Dk.flush;rw[ht];rfl
  rw[e1];exact flush_off p F D w h hb ht
 ·have e:D.ticked.now=D.now:=by unfold Dk.now;rw[ticked_same.1,ticked_same.2.1]
  have e1:D.flush=(0,{D.ticked with safe:=D.ticked.now,held:=[]}):=by unfold Dk.flush;rw[ht,e];rfl
  rw[e1];exact flush_ok p F D w h hb ht
end Go.Proofs.YtjkmahmoclobmaaGreat.disk
namespace Go.Proofs.YtjkmahmoclobmaaGreat.disk
open Go.RowKit mem base
end Go.Proofs.YtjkmahmoclobmaaGreat.disk
namespace Go.Proofs.YtjkmahmoclobmaaGreat.disk
open Go.RowKit mem base
end Go.Proofs.YtjkmahmoclobmaaGreat.disk
namespace Go.Proofs.YtjkmahmoclobmaaGreat.disk
open Go.RowKit mem base
def Mine (w0 w:World)(F:List Nat)(p:Nat)(D:Dk):Prop:=VD w F p D∧(∀ x∈F,w0.heap.size≤x)∧Kept [] w0 w

section
variable {w0 w w':World}{F:List Nat}{p:Nat}{D D':Dk}
theorem Mine.kept (h:Mine w0 w F p D)(k:Kept [] w w'):Mine w0 w' F p D:=⟨h.1.kept k (by simp),h.2.1,h.2.2.trans k (by simp)⟩
end
theorem mine_new (x:Int)(n:Nat)(w0 w:World)(hx:x=n)(hk:Kept [] w0 w)(h1:1≤n)(h2:n≤4096):Calls Tryz.prog 126 #[.int .i64 x] w fun e w'=>
  ∃ F p,e= .returned (.tuple #[.pointer (some ⟨p,0,none⟩),.int .i64 0])∧Mine w0 w' F p (Dk.new n):=by
 subst hx;have hs:=hk.size
 exact(new_ok n w h1 h2).mono fun e w' ⟨F,p,he,hv,hF,hk'⟩=>⟨F,p,he,hv,fun x hx=>by have:=hF x hx;omega,hk.trans hk' (by simp)⟩

end Go.Proofs.YtjkmahmoclobmaaGreat.disk
namespace Go.Proofs.YtjkmahmoclobmaaGreat.disk
open Go.RowKit mem base
end Go.Proofs.YtjkmahmoclobmaaGreat.disk
namespace Go.Proofs.YtjkmahmoclobmaaGreat.disk
open Go.RowKit mem base
theorem sec_one (n i:Nat)(s b:List UInt8)(hs:s.length=64*n)(hi:i<n)(hb:b.length=64):sec (lay s (64*i) b) i=b:=by
 rw[sec_lay_same s i n b hs hi (by omega),lay_all _ _ (by rw[sec_length s i n hs hi];exact hb)]
end Go.Proofs.YtjkmahmoclobmaaGreat.disk
