import Derived.Test.YtjkmahmoclobmaaGreatYRefCore
import Derived.Test.YtjkmahmoclobmaaGreatYRowCore
namespace Go.Proofs.YtjkmahmoclobmaaGreat.rowBack
open Go.RowKit mem row ref
theorem bytesOf_append (x:Nat)(a b:List Int)(hx:0<x):bytesOf x (a++b)=bytesOf x a++bytesOf x b:=by
 apply List.ext_getElem?
 intro i;unfold bytesOf;rw[List.getElem?_append,List.length_map,List.length_range];simp only[List.getElem?_map,List.length_append]
 split
 ·rename_i h
  have hia:i/x<a.length:=Nat.div_lt_of_lt_mul h;rw[List.getElem?_range (by rw[Nat.mul_add];omega),List.getElem?_range h]
  simp [row.byteOf,List.getElem?_append_left hia]
 ·rename_i h
  by_cases h2:i<x*(a.length+b.length)
  ·obtain⟨k,rfl⟩:∃ k,i=x*a.length+k:=⟨i-x*a.length,by omega⟩;rw[Nat.mul_add]at h2;rw[Nat.add_sub_cancel_left,Nat.mul_add,List.getElem?_range h2,List.getElem?_range (by omega)];simp only[Option.map_some,row.byteOf,Nat.mul_add_div hx,Nat.mul_add_mod,List.getD_eq_getElem?_getD];rw[List.getElem?_append_right (Nat.le_add_right _ _),Nat.add_sub_cancel_left]
  ·rw[Nat.mul_add]at h2;rw[List.getElem?_eq_none (by simp [Nat.mul_add];omega),List.getElem?_eq_none (by simp;omega)]
   rfl

theorem num1 (n:Int)(h:fitsW 1 n=true):numOf (bytesOf 1 [n])=n:=by
 have h':0≤n∧n<256:=by simpa [fitsW]using h
 simp only[bytesOf,numOf,row.byteOf,List.length_singleton,List.range,List.range.loop,List.map,List.foldr,UInt8.toNat_ofNat',Nat.reduceMul,Nat.reduceDiv,Nat.reduceMod,List.getD_cons_zero,Int.pow_zero]
 omega
theorem num2 (n:Int)(h:fitsW 2 n=true):numOf (bytesOf 2 [n])=n:=by
 have h':0≤n∧n<65536:=by simpa [fitsW]using h
 simp only[bytesOf,numOf,row.byteOf,List.length_singleton,List.range,List.range.loop,List.map,List.foldr,UInt8.toNat_ofNat',Nat.reduceMul,Nat.reduceDiv,Nat.reduceMod,List.getD_cons_zero,Int.pow_zero,Int.reducePow]
 omega
theorem num4 (n:Int)(h:fitsW 4 n=true):numOf (bytesOf 4 [n])=n:=by
 have h':0≤n∧n<4294967296:=by simpa [fitsW]using h
 simp only[bytesOf,numOf,row.byteOf,List.length_singleton,List.range,List.range.loop,List.map,List.foldr,UInt8.toNat_ofNat',Nat.reduceMul,Nat.reduceDiv,Nat.reduceMod,List.getD_cons_zero,Int.pow_zero,Int.reducePow]
 omega
theorem num_bytes (x:Nat)(hx:x=1∨x=2∨x=4)(n:Int)(h:fitsW x n=true):numOf (bytesOf x [n])=n:=by
 rcases hx with rfl|rfl|rfl
 ·exact num1 n h
 ·exact num2 n h
 ·exact num4 n h

end Go.Proofs.YtjkmahmoclobmaaGreat.rowBack
namespace Go.Proofs.YtjkmahmoclobmaaGreat.fill
open Go.RowKit mem row rowBack
theorem over_zeros (n:Nat)(a b:List UInt8):over (a++List.replicate (n-a.length) 0) a.length b=(a++b)++List.replicate (n-(a++b).length) 0:=by
 unfold over;rw[List.take_left,List.append_assoc a b,show a.length+b.length=a.length+b.length from rfl,List.drop_append];rw[List.drop_eq_nil_of_le (by omega:a.length≤a.length+b.length),List.nil_append,List.drop_replicate];rw[show n-a.length-(a.length+b.length-a.length)=n-(a++b).length by simp;omega]
def rowF (n:Nat)(a:List UInt8):Row:=⟨a++List.replicate (n-a.length) 0,a.length⟩
theorem rowF_nil (n:Nat):(⟨List.replicate n 0,0⟩:Row)=rowF n []:=by simp [rowF]
theorem rowF_len (n:Nat)(a:List UInt8)(h:a.length≤n):(rowF n a).bs.length=n:=by simp [rowF];omega
theorem rowF_full (n:Nat)(a:List UInt8)(h:a.length=n):(rowF n a).bs=a:=by simp [rowF,h]
theorem rowF_put (n:Nat)(a:List UInt8)(x:Nat)(l:List Int)(hx:isW (x:Int)=true)(hf:∀ m∈l,fitsW x m=true)(h:a.length+x*l.length≤n):(rowF n a).put x l=(true,rowF n (a++bytesOf x l)):=by
 have hb:=bytesOf_length x l;have hl:=rowF_len n a (by omega);unfold Row.put;rw[if_pos ⟨hx,hf,by rw[hl,Int.toNat_natCast];exact h⟩,Int.toNat_natCast];refine Prod.ext rfl (Row.same ⟨?_,?_⟩)
 ·exact over_zeros n a _
 ·simp [rowF,hb]
theorem rowF_lay (n:Nat)(a xs:List UInt8)(h:a.length+xs.length≤n):(rowF n a).lay xs=(true,rowF n (a++xs)):=by
 have hl:=rowF_len n a (by omega);unfold Row.lay;rw[if_pos (by rw[hl];exact h)];refine Prod.ext rfl (Row.same ⟨?_,?_⟩)
 ·exact over_zeros n a _
 ·simp [rowF]
theorem get_here (a b:List UInt8)(x p:Nat)(n:Int)(hx:x=1∨x=2∨x=4)(hf:fitsW x n=true)(hp:p=a.length):Row.get ⟨a++(bytesOf x [n]++b),p⟩ x=(n,true,⟨a++(bytesOf x [n]++b),p+x⟩):=by
 have hl:(bytesOf x [n]).length=x:=by simp [bytesOf_length]
 subst hp;unfold Row.get;rw[if_pos ⟨by rcases hx with rfl|rfl|rfl<;>rfl,by simp [hl]⟩,Int.toNat_natCast];simp only[List.drop_left];rw[List.take_left' hl,num_bytes x hx n hf]
theorem bytesOf_cons (x:Nat)(hx:0<x)(n:Int)(l:List Int):bytesOf x (n::l)=bytesOf x [n]++bytesOf x l:=bytesOf_append x [n] l hx

theorem get_bd (R:Row)(x:Nat):0≤(R.get x).1∧(R.get x).1<256^x:=by
 unfold Row.get
 split
 ·have h:=numOf_bd ((R.bs.drop R.pos).take (x:Int).toNat);have hle:((R.bs.drop R.pos).take (x:Int).toNat).length≤x:=Nat.le_trans (List.length_take_le _ _) (by rw[Int.toNat_natCast];exact Nat.le_refl _);refine⟨h.1,Int.lt_of_lt_of_le h.2 ?_⟩;clear h;generalize ((R.bs.drop R.pos).take (x:Int).toNat).length=k at hle;have h3:=Int.ofNat_le.2 (Nat.pow_le_pow_right (show 0<256 by omega) hle)
  rwa [Int.natCast_pow,Int.natCast_pow]at h3
 ·exact⟨Int.le_refl 0,Int.pow_pos (by omega)⟩
end Go.Proofs.YtjkmahmoclobmaaGreat.fill
