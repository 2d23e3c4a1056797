/- Ru -/
import Derived.Lib.MapLaws
import Derived.Lib.QuoteLoop
import Derived.Lib.SpaceUEq
import Derived.Lib.RuneBytes
set_option maxHeartbeats 16000000
set_option maxRecDepth 100000
namespace Go.Proofs.YtddkjkockbcamaaGreatDoor.Ru
open Go.Lib
def o8:Nat→List UInt8→List Nat
 | 0,_=>[]
 | f+1,l=>if l=[] then [] else (decodeL l).1::o8 f (l.drop (decodeL l).2)
def aS (l:List UInt8):List Nat:=o8 l.length l
theorem vw:∀ (f g:Nat) (l:List UInt8),l.length≤f→l.length≤g→o8 f l=o8 g l
 | 0,0,_,_,_=>rfl
 | 0,g+1,l,h,_=>by
  have:l=[]:=List.eq_nil_of_length_eq_zero (by omega);simp [o8,this]
 | f+1,0,l,_,h=>by
  have:l=[]:=List.eq_nil_of_length_eq_zero (by omega);simp [o8,this]
 | f+1,g+1,l,hf,hg=>by
  unfold o8
  by_cases h:l=[]
  ·simp [h]
  ·have hl:0<l.length:=List.length_pos_iff.2 h
   have hw:=decodeL_width l;simp only [h,if_false];rw [vw f g _ (by rw [List.length_drop];omega) (by rw [List.length_drop];omega)]
theorem iC:aS []=[]:=rfl
theorem eB {l:List UInt8}(h:l≠[]):aS l=(decodeL l).1::aS (l.drop (decodeL l).2):=by
 have hl:0<l.length:=List.length_pos_iff.2 h;have hw:=decodeL_width l;obtain ⟨n,hn⟩:∃ n,l.length=n+1:=⟨l.length-1,by omega⟩
 unfold aS;rw [hn]
 conv=>lhs;unfold o8
 simp only [h,if_false];rw [vw n _ _ (by rw [List.length_drop];omega) (Nat.le_refl _)]
theorem Ex {l:List UInt8}(h:l≠[]):aS l≠[]:=by rw [eB h];simp
theorem C6 {l:List UInt8}:aS l=[]↔l=[]:=⟨fun h=>by
 by_cases hl:l=[]
 ·exact hl
 ·exact absurd h (Ex hl),fun h=>by rw [h];rfl⟩
def vr (r:Nat):Prop:=r<55296∨(57344≤r∧r≤1114111)
theorem qJ (l:List UInt8):vr (decodeL l).1:=by
 rw [decodeL_N];have:=decodeN_valid l.length (l.getD 0 0).toNat (l.getD 1 0).toNat (l.getD 2 0).toNat (l.getD 3 0).toNat (l.getD 0 0).toNat_lt;unfold vr;omega
theorem uA {P:List UInt8→Prop}(h0:P []) (h1:∀ l,l≠[]→P (l.drop (decodeL l).2)→P l):∀ l,P l:=by
 have:∀ (n:Nat) (l:List UInt8),l.length≤n→P l:=by
  intro n
  induction n with
  | zero=>intro l hl;have:l=[]:=List.eq_nil_of_length_eq_zero (by omega);rw [this];exact h0
  | succ n ih =>
   intro l hl
   by_cases h:l=[]
   ·rw [h];exact h0
   ·have hp:0<l.length:=List.length_pos_iff.2 h
    have hw:=decodeL_width l;exact h1 l h (ih _ (by rw [List.length_drop];omega))
 exact fun l=>this _ l (Nat.le_refl _)
theorem PZ:∀ l,∀ x∈aS l,vr x:=by
 refine uA (by simp [iC]) ?_;intro l h ih x hx;rw [eB h,List.mem_cons] at hx;rcases hx with rfl | hx
 ·exact qJ l
 ·exact ih x hx
theorem lU:∀ l,(aS l).length≤l.length:=by
 refine uA (by simp [iC]) ?_;intro l h ih;have hp:0<l.length:=List.length_pos_iff.2 h;have hw:=decodeL_width l;rw [eB h,List.length_cons];rw [List.length_drop] at ih;omega
theorem Gp {l:List UInt8}{pos:Nat}(h:pos<l.length):aS (l.drop pos)=(Utf8.decode ⟨l.toArray⟩ pos).1::aS (l.drop (pos+(Utf8.decode ⟨l.toArray⟩ pos).2)):=by
 have hd:=decodeL_drop ⟨l.toArray⟩ pos;simp only at hd;rw [← hd,eB (by intro h0;have:=congrArg List.length h0;rw [List.length_drop] at this;simp at this;omega),List.drop_drop]
def enc (X:List Nat):List UInt8:=X.flatMap fun x:Nat=>encodeRune (x:Int)
theorem rM:enc []=[]:=rfl
theorem oZ (x:Nat) (X:List Nat):enc (x::X)=encodeRune (x:Int)++enc X:=rfl
theorem xp (X Y:List Nat):enc (X++Y)=enc X++enc Y:=by simp [enc]
theorem oG (X:List Nat) (x:Nat):enc (X++[x])=enc X++encodeRune (x:Int):=by rw [xp,oZ,rM,List.append_nil]
theorem dS (r:Int):1≤(encodeRune r).length∧(encodeRune r).length≤4:=by
 have:=encodeRuneZ_length r;simpa [encodeRune] using this
theorem gJ (X:List Nat):X.length≤(enc X).length∧(enc X).length≤4*X.length:=by
 induction X with
 | nil=>simp [rM]
 | cons x X ih=>have:=dS (x:Int);rw [oZ,List.length_append,List.length_cons];omega
theorem xC {X:List Nat}:enc X=[]↔X=[]:=by
 constructor
 ·intro h
  have:=(gJ X).1;rw [h] at this;exact List.eq_nil_of_length_eq_zero (by simpa using this)
 ·intro h;rw [h];rfl
theorem ofNat_toNat (z:Int) (h0:0≤z) (h1:z<256):((z.toNat.toUInt8).toNat:Int)=z:=by
 have:(z.toNat.toUInt8).toNat=z.toNat%256:=by simp
 rw [this];omega
theorem bM (z:Int) (h0:0≤z) (h1:z<256):(z.toNat.toUInt8).toNat=z.toNat:=by
 have:=ofNat_toNat z h0 h1;omega
theorem decode_encode (r:Nat) (hv:vr r) (t:List UInt8):decodeL (encodeRune (r:Int)++t)=(r,(encodeRune (r:Int)).length):=by
 unfold vr at hv;rw [decodeL_N]
 by_cases h1:r≤127
 ·have e:encodeRune (r:Int)=[(r:Int).toNat.toUInt8]:=by rw [encodeRune,encodeRuneZ_one (by omega) (by omega)];rfl
  rw [e];simp only [List.cons_append,List.nil_append,List.getD_cons_zero];rw [decodeN_ascii _ _ _ _ _ (by rw [bM _ (by omega) (by omega)];omega),bM _ (by omega) (by omega)];simp
 ·by_cases h2:r≤2047
  ·have e:encodeRune (r:Int)=[(192+(r:Int) / 64).toNat.toUInt8,(128+(r:Int)%64).toNat.toUInt8]:=by rw [encodeRune,encodeRuneZ_two (by omega) (by omega)];rfl
   rw [e];simp only [List.cons_append,List.nil_append,List.getD_cons_zero,List.getD_cons_succ,List.length_cons,List.length_nil];have b0:=bM (192+(r:Int) / 64) (by omega) (by omega);have b1:=bM (128+(r:Int)%64) (by omega) (by omega);unfold decodeN;rw [b0,b1];rw [if_neg (by omega),if_pos (by omega),if_pos (by omega)];exact Prod.ext (by simp only;omega) rfl
  ·by_cases h3:r≤65535
   ·have e:encodeRune (r:Int)=[(224+(r:Int) / 4096).toNat.toUInt8,(128+(r:Int) / 64%64).toNat.toUInt8,(128+(r:Int)%64).toNat.toUInt8]:=by rw [encodeRune,encodeRuneZ_three (by omega)];rfl
    rw [e];simp only [List.cons_append,List.nil_append,List.getD_cons_zero,List.getD_cons_succ,List.length_cons,List.length_nil];have b0:=bM (224+(r:Int) / 4096) (by omega) (by omega);have b1:=bM (128+(r:Int) / 64%64) (by omega) (by omega);have b2:=bM (128+(r:Int)%64) (by omega) (by omega);unfold decodeN;rw [b0,b1,b2];rw [if_neg (by omega),if_neg (by omega),if_pos (by omega),if_pos (by omega)];exact Prod.ext (by simp only;omega) rfl
   ·have e:encodeRune (r:Int)=[(240+(r:Int) / 262144).toNat.toUInt8,(128+(r:Int) / 4096%64).toNat.toUInt8,(128+(r:Int) / 64%64).toNat.toUInt8,(128+(r:Int)%64).toNat.toUInt8]:=by rw [encodeRune,encodeRuneZ_four (by omega) (by omega)];rfl
    rw [e];simp only [List.cons_append,List.nil_append,List.getD_cons_zero,List.getD_cons_succ,List.length_cons,List.length_nil];have b0:=bM (240+(r:Int) / 262144) (by omega) (by omega);have b1:=bM (128+(r:Int) / 4096%64) (by omega) (by omega);have b2:=bM (128+(r:Int) / 64%64) (by omega) (by omega);have b3:=bM (128+(r:Int)%64) (by omega) (by omega);unfold decodeN;rw [b0,b1,b2,b3];rw [if_neg (by omega),if_neg (by omega),if_neg (by omega),if_pos (by omega),if_pos (by omega)];exact Prod.ext (by simp only;omega) rfl
theorem Am (X:List Nat) (hv:∀ x∈X,vr x) (t:List UInt8):aS (enc X++t)=X++aS t:=by
 induction X with
 | nil=>rfl
 | cons x X ih =>
  have hx:=hv x (by simp);have hl:=dS (x:Int);rw [oZ,List.append_assoc,eB (by intro h;have:=congrArg List.length h;simp only [List.length_append,List.length_nil] at this;omega),decode_encode x hx];simp only [List.drop_left,List.cons_append];rw [ih fun y hy=>hv y (by simp [hy])]
theorem BD {X:List Nat}(hv:∀ x∈X,vr x):aS (enc X)=X:=by
 have:=Am X hv [];simpa [iC] using this
theorem jR {l:List UInt8}(h:l≠[]):(decodeL l).2≤4∧(decodeL l).2≤l.length∧∀ j,1≤j→j<(decodeL l).2→(l.getD j 0).toNat / 64=2:=by
 have hc:=decodeN_conts l.length (l.getD 0 0).toNat (l.getD 1 0).toNat (l.getD 2 0).toNat (l.getD 3 0).toNat;rw [← decodeL_N] at hc;have hle:=decodeL_le l h;refine ⟨hc.2.2.2,hle,fun j h1 h2=>?_⟩;obtain ⟨c1,c2,c3,c4⟩:=hc;have:j=1∨j=2∨j=3:=by omega
 rcases this with rfl | rfl | rfl
 ·exact (c1 (by omega)).1
 ·exact (c2 (by omega)).1
 ·exact (c3 (by omega)).1
theorem FP {l:List UInt8}(h:(l.getD 0 0).toNat / 64=2):decodeL l=(65533,1):=by
 rw [decodeL_N,decodeN_cont _ _ _ _ _ h]
theorem eV (l:List UInt8) (h:l≠[]) :
  (lastStart l+5=l.length∧∀ j,2≤j→j≤4→(l.getD (l.length-j) 0).toNat / 64=2) ∨
  (lastStart l=0∧l.length≤4∧∀ j,2≤j→j≤l.length→(l.getD (l.length-j) 0).toNat / 64=2) ∨
  (∃ j,2≤j∧j≤4∧lastStart l+j=l.length∧(l.getD (l.length-j) 0).toNat / 64≠2∧∀ i,2≤i→i<j→(l.getD (l.length-i) 0).toNat / 64=2):=by
 have hp:0<l.length:=List.length_pos_iff.2 h;unfold lastStart runeStartB;simp only [bne_iff_ne,ne_eq];have k:∀ i n:Nat,2≤i→i≤n→n≤4→i=2∨i=3∨i=4:=fun i n h1 h2 h3=>by omega
 by_cases e2:l.length<2
 ·rw [if_pos e2]
  exact .inr (.inl ⟨rfl,by omega,fun j h1 h2=>by omega⟩)
 rw [if_neg e2]
 by_cases a2:(l.getD (l.length-2) 0).toNat / 64=2
 ·rw [if_neg (by simpa using a2)]
  by_cases e3:l.length<3
  ·rw [if_pos e3]
   exact .inr (.inl ⟨rfl,by omega,fun j h1 h2=>(show j=2 by omega)▸a2⟩)
  rw [if_neg e3]
  by_cases a3:(l.getD (l.length-3) 0).toNat / 64=2
  ·rw [if_neg (by simpa using a3)]
   by_cases e4:l.length<4
   ·rw [if_pos e4]
    refine .inr (.inl ⟨rfl,by omega,fun j h1 h2=>?_⟩);rcases k j 3 h1 (by omega) (by omega) with rfl | rfl | rfl
    ·exact a2
    ·exact a3
    ·omega
   rw [if_neg e4]
   by_cases a4:(l.getD (l.length-4) 0).toNat / 64=2
   ·rw [if_neg (by simpa using a4)]
    by_cases e5:l.length<5
    ·rw [if_pos e5]
     refine .inr (.inl ⟨rfl,by omega,fun j h1 h2=>?_⟩);rcases k j 4 h1 (by omega) (by omega) with rfl | rfl | rfl
     ·exact a2
     ·exact a3
     ·exact a4
    ·rw [if_neg e5]
     refine .inl ⟨by omega,fun j h1 h2=>?_⟩;rcases k j 4 h1 h2 (by omega) with rfl | rfl | rfl
     ·exact a2
     ·exact a3
     ·exact a4
   ·rw [if_pos (by simpa using a4)]
    refine .inr (.inr ⟨4,by omega,by omega,by omega,a4,fun i h1 h2=>?_⟩);rcases k i 4 h1 (by omega) (by omega) with rfl | rfl | rfl
    ·exact a2
    ·exact a3
    ·omega
  ·rw [if_pos (by simpa using a3)]
   refine .inr (.inr ⟨3,by omega,by omega,by omega,a3,fun i h1 h2=>?_⟩);obtain rfl:i=2:=by omega
   exact a2
 ·rw [if_pos (by simpa using a2)]
  exact .inr (.inr ⟨2,by omega,by omega,by omega,a2,fun i h1 h2=>by omega⟩)
theorem BE (l:List UInt8) (k j:Nat):(l.drop k).getD j 0=l.getD (k+j) 0:=by simp [List.getD]
theorem ji {l:List UInt8}(h:l≠[]) (hb:128≤(l.getD (l.length-1) 0).toNat) :
  decodeLastL l=if lastStart l+(decodeL (l.drop (lastStart l))).2=l.length then decodeL (l.drop (lastStart l)) else (65533,1):=by
 unfold decodeLastL;rw [if_neg h,if_neg (by omega)]
 rfl
theorem Tr {l:List UInt8}(h:l≠[]) (hw:(decodeL l).2=l.length):(decodeLastL l).1=(decodeL l).1:=by
 have hp:0<l.length:=List.length_pos_iff.2 h;obtain ⟨r4,_,rb⟩:=jR h
 by_cases hb:(l.getD (l.length-1) 0).toNat<128
 ·have h1:l.length=1:=by
   rcases Nat.lt_or_ge 1 l.length with h1 | h1
   ·have:=rb (l.length-1) (by omega) (by omega);omega
   ·omega
  rw [decodeL_N];unfold decodeLastL;rw [if_neg h,if_pos hb];rw [h1] at hb ⊢;rw [decodeN_ascii _ _ _ _ _ hb]
 ·rw [ji h (by omega)]
  have h0:lastStart l=0:=by
   rcases eV l h with ⟨h5,_⟩ | ⟨h5,_⟩ | ⟨j,j2,j4,hj,ha,_⟩
   ·omega
   ·exact h5
   ·rcases Nat.lt_or_ge j l.length with h1 | h1
    ·exact absurd (rb (l.length-j) (by omega) (by omega)) ha
    ·omega
  rw [h0,List.drop_zero,if_pos (by omega)]
theorem M3 {l:List UInt8}(h:l≠[]) (hw:(decodeL l).2<l.length):decodeLastL l=decodeLastL (l.drop (decodeL l).2):=by
 have hp:0<l.length:=List.length_pos_iff.2 h;have hk:=decodeL_width l;obtain ⟨r4,_,rb⟩:=jR h;obtain ⟨k,Au⟩:∃ k,k=(decodeL l).2:=⟨_,rfl⟩
 rw [← Au] at hw hk r4 rb ⊢;have hlen:(l.drop k).length=l.length-k:=List.length_drop ..;have hr:l.drop k≠[]:=by intro h0;rw [h0] at hlen;simp at hlen;omega
 have hat:∀ j,1≤j→j≤l.length-k→(l.drop k).getD ((l.drop k).length-j) 0=l.getD (l.length-j) 0:=by
  intro j h1 h2;rw [BE,hlen];congr 1;omega
 by_cases hb:(l.getD (l.length-1) 0).toNat<128
 ·have h1:=hat 1 (by omega) (by omega)
  unfold decodeLastL;rw [if_neg h,if_neg hr,h1,if_pos hb,if_pos hb]
 have hb':128≤((l.drop k).getD ((l.drop k).length-1) 0).toNat:=by rw [hat 1 (by omega) (by omega)];omega
 rw [ji h (by omega),ji hr hb'];have zN:lastStart l=k+lastStart (l.drop k)∨(l.length-k≤4∧lastStart (l.drop k)=0∧∀ j,2≤j→j≤l.length-k→(l.getD (l.length-j) 0).toNat / 64=2):=by
  rcases eV (l.drop k) hr with ⟨h5,ha⟩ | ⟨h5,h4,ha⟩ | ⟨j,j2,j4,hj,ha,hi⟩
  ·left
   rw [hlen] at h5;have ha':∀ j,2≤j→j≤4→(l.getD (l.length-j) 0).toNat / 64=2:=fun j h1 h2=>by rw [← hat j (by omega) (by omega)];exact ha j h1 h2
   rcases eV l h with ⟨g5,_⟩ | ⟨_,g4,_⟩ | ⟨j,j2,j4,hj,hx,_⟩
   ·omega
   ·omega
   ·exact absurd (ha' j j2 j4) hx
  ·right
   rw [hlen] at h4 ha;exact ⟨h4,h5,fun j h1 h2=>by have:=ha j h1 h2;rwa [← hlen,hat j (by omega) (by omega)] at this⟩
  ·left
   rw [hlen] at hj;rw [hat j (by omega) (by omega)] at ha;have hi':∀ i,2≤i→i<j→(l.getD (l.length-i) 0).toNat / 64=2:=fun i h1 h2=>by rw [← hat i (by omega) (by omega)];exact hi i h1 h2
   rcases eV l h with ⟨_,g⟩ | ⟨_,_,g⟩ | ⟨j',j2',j4',hj',hx,g⟩
   ·exact absurd (g j j2 j4) ha
   ·exact absurd (g j j2 (by omega)) ha
   ·have:j'=j:=by
     rcases Nat.lt_trichotomy j' j with h1 | h1 | h1
     ·exact absurd (hi' j' j2' h1) hx
     ·exact h1
     ·exact absurd (g j j2 h1) ha
    omega
 rcases zN with hc | ⟨n4,hs,ha⟩
 ·rw [hc,← List.drop_drop,hlen]
  by_cases hq:lastStart (l.drop k)+(decodeL ((l.drop k).drop (lastStart (l.drop k)))).2=l.length-k
  ·rw [if_pos hq,if_pos (by omega)]
  ·rw [if_neg hq,if_neg (by omega)]
 ·-- the rest: no rune
  have e1:decodeL (l.drop k)=(65533,1):=by
   rcases Nat.lt_or_ge 1 (l.length-k) with h1 | h1
   ·refine FP ?_
    have:=ha (l.length-k) (by omega) (by omega);rw [BE,Nat.add_zero];rwa [show l.length-(l.length-k)=k by omega] at this
   ·rw [decodeL_N,hlen]
    refine decodeN_alone _ _ _ _ _ ?_ (.inl h1);have:=hat 1 (by omega) (by omega);rw [hlen,show l.length-k-1=0 by omega] at this;rw [this];omega
  have e2:lastStart l+(decodeL (l.drop (lastStart l))).2≠l.length:=by
   rcases eV l h with ⟨g5,_⟩ | ⟨g0,_,_⟩ | ⟨j,j2,j4,hj,hx,_⟩
   ·have hne:l.drop (lastStart l)≠[]:=by
     intro h0;have:=congrArg List.length h0;rw [List.length_drop] at this;simp at this;omega
    have:=(jR hne).1;omega
   ·rw [g0,List.drop_zero,← Au];omega
   ·rcases Nat.lt_or_ge (l.length-k) j with h1 | h1
    ·rcases Nat.eq_zero_or_pos (lastStart l) with g0 | g0
     ·rw [g0,List.drop_zero,← Au];omega
     ·exact absurd (rb (l.length-j) (by omega) (by omega)) hx
    ·exact absurd (ha j j2 h1) hx
  rw [if_neg e2,hs,List.drop_zero,e1]
  split<;>rfl
theorem JS:∀ l,l≠[]→(aS l).getLast? = some (decodeLastL l).1:=by
 refine uA (fun h=>absurd rfl h) ?_;intro l h ih _;rw [eB h];have hle:=(jR h).2.1
 by_cases hw:(decodeL l).2=l.length
 ·rw [List.drop_eq_nil_of_le (by omega),iC]
  simp only [List.getLast?_singleton];rw [Tr h hw]
 ·have hr:l.drop (decodeL l).2≠[]:=by
   intro h0;have:=congrArg List.length h0;rw [List.length_drop] at this;simp at this;omega
  have:=ih hr;rw [M3 h (by omega),← this];rw [List.getLast?_cons];cases hx:(aS (l.drop (decodeL l).2)).getLast? with
  | none=>exact absurd (List.getLast?_eq_none_iff.1 hx) (Ex hr)
  | some x=>rfl
end Go.Proofs.YtddkjkockbcamaaGreatDoor.Ru
