/- Mem RnKinds ClMath ClFlat FnMath CdMath Two Blk HeapMap Byt LfMath BkMath AppRow FnRun CdRef ClFns BkTreeM LnMath MakeS PbMath -/
import Derived.Test.YtddkjkockbcamaaGreatDoorRows
import Derived.WalkKit
import Derived.WalkSpells
import Derived.WalkLawsBesides
import Derived.Deep.Draws
import Derived.Lib.Hide
import Derived.Lib.AppendStr
import Derived.Handy
import Derived.Maps.AppendAt
import Derived.Laws.ResultCell
import Derived.Laws.OwnMore
set_option maxHeartbeats 16000000
set_option maxRecDepth 100000
namespace Go.Proofs.YtddkjkockbcamaaGreatDoor
open Go.RowKit
def bv (b:UInt8):Value:=.int .u8 (b.toNat:Int)
def aj (l:List UInt8):List Value:=l.map bv
def bs (l:List UInt8):ByteArray:=⟨l.toArray⟩
theorem au (l:List UInt8):(bs l).size=l.length:=by simp [bs,ByteArray.size]
theorem bG (l:List UInt8):(bs l).toList=l:=ByteArray.toList_mk l
theorem Xi {a b:List UInt8}(h:a=b):((bs a).toList==(bs b).toList)=true:=by subst h;simp
theorem Yk {a b:List UInt8}(h:a≠b):((bs a).toList==(bs b).toList)=false:=by rw [bG,bG];simpa using h
theorem yu (a b:List UInt8):bs a++bs b=bs (a++b):=by
 apply ByteArray.ext;simp [bs]
def Row (w:World) (B size:Nat) (A:Option Addr) (n:Nat) (xs:List Value):Prop :=
 xs.length=n*size∧(0<n→∃ b o,A=some ⟨b,o,none⟩∧b<B∧∀ j u,xs[j]? = some u→w.cell? ⟨b,o+j,none⟩=some u)
section
variable {w w':World}{B B' size n:Nat}{A:Option Addr}{xs:List Value}
theorem Row.nil:Row w B size A 0 []:=⟨by simp,fun h=>absurd h (by omega)⟩
theorem Row.keep (h:Row w B size A n xs) (hk:∀ p:Addr,p.block<B→w'.cell? p=w.cell? p):Row w' B size A n xs :=
 ⟨h.1,fun hn=>by
  obtain ⟨b,o,e,hb,hc⟩:=h.2 hn;exact ⟨b,o,e,hb,fun j u hu=>(hk _ hb).trans (hc j u hu)⟩⟩
theorem Row.more (h:Row w B size A n xs) (hB:B≤B'):Row w B' size A n xs :=
 ⟨h.1,fun hn=>by
  obtain ⟨b,o,e,hb,hc⟩:=h.2 hn;exact ⟨b,o,e,by omega,hc⟩⟩
theorem Row.below (h:Row w B size A n xs) (hb:Below B w w'):Row w' B size A n xs:=h.keep fun _ hp=>hb.cell hp
theorem Row.alloc (h:Row w B size A n xs) (hB:B≤w.heap.size) (o:Obj):Row (w.alloc o) B size A n xs:=h.keep fun p hp=>World.cell?_alloc_lt w o p (by omega)
theorem Row.own {base:Nat}{e:TypeId}{c:Nat}(h:w.ownsRow base e size (.slice A n c) n xs):Row w w.heap.size size A n xs:=by
 refine ⟨h.1,fun hn=>?_⟩;rcases h.2 with ⟨_,h0⟩ | ⟨g,cap,cur,hv,_,hg,_,_,_,TA⟩
 ·omega
 ·have hA:A=some ⟨g,0,none⟩:=by injection hv
  refine ⟨g,0,hA,(Array.getElem?_eq_some_iff.1 hg).1,fun j u hu=>?_⟩;have hc:=h.cells (g:=g) (by rw [hA];rfl) j u hu;have:(⟨g,0,none⟩:Addr).add j=⟨g,0+j,none⟩:=by unfold Addr.add;split<;>simp_all
  rwa [this] at hc
theorem Row.XI (h:Row w B 1 A n xs) {k:Nat}(hk:k<n):∃ b o,A=some ⟨b,o,none⟩∧b<B∧∀ j,(hj:j<n)→w.cell? ⟨b,o+j,none⟩=some (xs[j]'(by have:=h.1;omega)):=by
 obtain ⟨b,o,e,hb,hc⟩:=h.2 (by omega);refine ⟨b,o,e,hb,fun j hj=>hc j _ ?_⟩;exact List.getElem?_eq_getElem _
end
theorem ak {w:World}{base:Nat}{e:TypeId}{size n:Nat}{v:Value}{xs:List Value}(h:w.ownsRow base e size v n xs):∃ A c,v=.slice A n c∧n≤c:=by
 rcases h.2 with ⟨rfl,rfl⟩ | ⟨g,cap,cur,rfl,_,_,hn,_⟩
 ·exact ⟨none,0,rfl,by omega⟩
 ·exact ⟨_,cap,rfl,hn⟩
structure EI (P:Program) (T E:TypeId) (size bytes:Nat):Prop where
 ht:P.underlying T=some (.slice E)
 info:∃ i z,P.info? E=some i∧i.zero=some z∧i.size=size∧i.bytes=bytes∧z.cells.size=size
 pos:0<size
theorem EI.mk' {P:Program}{T E:TypeId}{z:Value}{size bytes:Nat}(ht:P.underlying T=some (.slice E))
  (h:(P.info? E).map (fun i=>(i.zero,i.size,i.bytes))=some (some z,size,bytes)) (hz:z.cells.size=size) (hp:0<size):EI P T E size bytes:=by
 obtain ⟨i,h1,h2,h3,h4⟩:=info_parts h;exact ⟨ht,⟨i,z,h1,h2,h3,h4,hz⟩,hp⟩
theorem bQ {w w1:World}{base:Nat}{e:TypeId}{size n:Nat}{v:Value}{xs:List Value}(h:w.ownsRow base e size v n xs) (hb:Below w.heap.size w w1):w1.ownsRow base e size v n xs:=by
 refine ⟨h.1,?_⟩;rcases h.2 with hn | ⟨g,cap,cur,rfl,hbg,Ie,rest⟩
 ·exact .inl hn
 ·exact .inr ⟨g,cap,cur,rfl,hbg,(hb.block g (Array.getElem?_eq_some_iff.1 Ie).1).trans Ie,rest⟩
theorem gZ {w w1 w2:World}{base:Nat}{e:TypeId}{size n:Nat}{v:Value}{xs:List Value}{a:World}(h:Below base a w) (hown:w1.ownsRow base e size v n xs)
  (h1:Below base w w1) (hg:w1.grownBy w2 v.ownBlock) (hbase:base≤w1.heap.size):Below base a w2 :=
 (h.trans h1).grown hg hbase fun k hk=>(hown.lt k hk).1
theorem yW (w0:World) (cs:Array Value) (E:TypeId) {g:Nat}(hg:g=w0.heap.size):∀ j u,cs.toList[j]? = some u→(w0.alloc (.cells cs E)).cell? ((⟨g,0,none⟩:Addr).add j)=some u:=by
 intro j u hu;have:(⟨g,0,none⟩:Addr).add j=⟨g,j,none⟩:=by unfold Addr.add;split<;>simp_all
 rw [this,World.cell?_alloc_at _ _ _ _ hg];simpa using hu
theorem jb {w0 w':World}{o:Obj}{row:Option Nat}(h:(w0.alloc o).grownBy w' row):w0.grownBy w' row :=
 ⟨h.os,h.tape,h.output,by have:=h.size;simp at this;omega,fun i hi hne=>(h.block i (by simp;omega) hne).trans (Below.heap_alloc w0 o i hi)⟩
theorem GO {w0 w':World}{row:Option Nat}(h:w0.grownBy w' row) {p:Addr}(hp:p.block<w0.heap.size) (hne:row≠some p.block):w'.cell? p=w0.cell? p :=
 World.cell?_of_block (h.block p.block hp (fun e=>hne e.symm))
theorem Ud {w:World}{base:Nat}{e:TypeId}{size n:Nat}{v:Value}{xs:List Value}(h:w.ownsRow base e size v n xs) {k:Nat}(hk:w.heap.size≤k):v.ownBlock≠some k:=fun he=>by
 have:=(h.lt k he).2;omega
theorem nc {P:Program}{w0:World}{ops:Array Oper}{rest:List Oper}{o:Oper}{a:Act}{Q:Exit→Act→World→Prop}(hgd:o.guard=none) (s x:Operand) {T:TypeId}
  (ho:o.op=.call { callee:=.builtin .append,args:=#[s,x],argTypes:=#[T,T] })
  {E:TypeId}{size bytes:Nat}(hE:EI P T E size bytes) {base n:Nat}{v:Value}{xs:List Value}(hs:a.eval s=v) (hown:w0.ownsRow base E size v n xs)
  {g k c:Nat}{cs:Array Value}(hx:a.eval x=.slice (some ⟨g,0,none⟩) k c) (hg:g=w0.heap.size) (hcs:cs.size=k*size) (h1:∀ u∈cs.toList,u.oneCell'=true)
  (h63:n+k≤1000000000000) (hbytes:bytes≤100) (hbase:base≤w0.heap.size)
  (h:∀ v' w',w'.ownsRow base E size v' (n+k) (xs++cs.toList)→Hid (w0.grownBy w' v.ownBlock)→Below base w0 w'→wpList P ops Q rest (a.put o.dst v') w') :
  wpList P ops Q (o::rest) a (w0.alloc (.cells cs E)):=by
 obtain ⟨i,z,hi,hz,hs1,hs2,LW⟩:=hE.info;refine wpList_append_own _ hgd s x T ho base E i z size bytes hE.ht hi hz hs1 hs2 LW hE.pos v n xs hs (hown.alloc _) ⟨g,0,none⟩ k c cs.toList hx (by simpa using hcs) (yW w0 cs E hg) h1
  (by unfold maxLen;omega) (by have:=Nat.mul_le_mul h63 hbytes;omega) (by simp;omega) ?_
 intro v' w' hw hgr _;exact h v' w' hw (jb hgr) (gZ (Below.refl _ _) (hown.alloc _) ((Below.refl _ _).alloc hbase _) hgr (by simp;omega))
def ua (size:Nat) (A:Option Addr) (c lo:Nat):Option Addr:=if c=lo then A else A.map (·.add (lo*size))
theorem IY {P:Program}{T:TypeId}(hT:P.underlying T=some (.slice (P.elem T))) (size:Nat) (hsz:∀ w,(sizeOf (P.elem T)).run P w=.ok size w) (A:Option Addr) (n c lo hi:Nat) (h1:lo≤hi) (h2:hi≤c) (w:World) :
  (Instr.slice T (.slice A n c) (some (.int .i64 (lo:Int))) (some (.int .i64 (hi:Int))) none).run P w=.ok (.slice (ua size A c lo) (hi-lo) (c-lo)) w:=by
 rw [run_slice_lh w T A n c hT .i64 .i64 lo hi (by omega) (by omega) (by omega),hsz];simp [sliced,ua,Result.andThen]
theorem Row.cut {w:World}{B size n:Nat}{A:Option Addr}{xs:List Value}(h:Row w B size A n xs) {c lo hi:Nat}(h1:lo≤hi) (h2:hi≤n) (h3:n≤c) :
  Row w B size (ua size A c lo) (hi-lo) ((xs.drop (lo*size)).take ((hi-lo)*size)):=by
 refine ⟨?_,fun hn=>?_⟩
 ·have hl:=h.1
  have h4:=Nat.mul_le_mul_right size h2;rw [List.length_take,List.length_drop,hl,Nat.sub_mul];omega
 ·obtain ⟨b,o,rfl,hb,hc⟩:=h.2 (by omega)
  refine ⟨b,o+lo*size,?_,hb,fun j u hu=>?_⟩
  ·unfold ua
   rw [if_neg (by omega)];simp only [Option.map_some,Addr.add]
   split
   ·rename_i h0;rw [h0];rfl
   ·rfl
  ·have:=hc (lo*size+j) u (by
    rw [List.getElem?_take] at hu
    split at hu
    ·rwa [List.getElem?_drop] at hu
    ·cases hu)
   rwa [← Nat.add_assoc] at this
def mid {α:Type}(l:List α) (lo hi:Nat):List α:=(l.drop lo).take (hi-lo)
theorem eZ {α:Type}{l:List α}{lo hi:Nat}(h:hi≤l.length):(mid l lo hi).length=hi-lo:=by
 unfold mid;rw [List.length_take,List.length_drop];omega
theorem Row.sub {w:World}{B n:Nat}{A:Option Addr}{l:List UInt8}(h:Row w B 1 A n (aj l)) {c lo hi:Nat}(h1:lo≤hi) (h2:hi≤n) (h3:n≤c) :
  Row w B 1 (ua 1 A c lo) (hi-lo) (aj (mid l lo hi)):=by
 have:=h.cut h1 h2 h3;simpa [aj,mid,List.map_take,List.map_drop] using this
theorem kO {P:Program}{w:World}{B n c:Nat}{A:Option Addr}{l:List UInt8}(h:Row w B 1 A n (aj l)) (src e dst:TypeId) (hs:P.underlying src=some (.slice e)) (he:P.underlying e=some (.int .u8)) (hd:P.underlying dst=some .string) :
  (convert src dst (.slice A n c)).run P w=.ok (.string (bs l)) w:=by
 have hn:l.length=n:=by have:=h.1;simpa [aj] using this
 rcases A with _ | ad
 ·have h0:n=0:=by
   rcases Nat.eq_zero_or_pos n with h0 | h0
   ·exact h0
   ·obtain ⟨b,o,e,_⟩:=h.2 h0;cases e
  subst h0;have:l=[]:=List.eq_nil_of_length_eq_zero hn;subst this;rw [run_convert_bytes_nil w src e hs he 0 c dst hd]
  rfl
 ·have MK:(strOfNums (l.map fun b=>(b.toNat:Int)))=⟨l.toArray⟩:=by
   have hid:((fun n:Int=>UInt8.ofNat n.toNat)∘fun b:UInt8=>(b.toNat:Int))=id:=by funext b;simp
   simp only [strOfNums,List.map_map,hid,List.map_id_fun,id]
  rcases Nat.eq_zero_or_pos n with h0 | h0
  ·subst h0
   have:l=[]:=List.eq_nil_of_length_eq_zero hn;subst this;obtain ⟨b,o,sp⟩:=ad;rw [run_convert_bytes_string w src dst e _ 0 c hs he hd,run_bytesToString w _ 0 c [] (by simp [loadCells,loadCellsFrom])]
   rfl
  ·obtain ⟨b,o,e,_,hc⟩:=h.2 h0
   cases e;rw [run_convert_bytes_arg w src _ hs he b o n c (l.map fun b=>(b.toNat:Int)) (by simpa using hn) (fun i hi=>by
    have hil:i<l.length:=by omega
    have:=hc i _ (List.getElem?_eq_getElem (by simpa [aj] using hil));rw [this];simp [aj,bv,List.getElem?_eq_getElem hil]) dst hd,MK]
   rfl
def aZ (l:List (List UInt8)):List Value:=l.map fun s=>.string (bs s)
theorem tU (l:List UInt8):Lib.strCells (bs l)=aj l:=by simp [Lib.strCells,aj,bv,bs]
theorem iC {P:Program}{w:World}{ops:Array Oper}{rest:List Oper}{o:Oper}{a:Act}{Q:Exit→Act→World→Prop}(hgd:o.guard=none) (s x:Operand) {T U:TypeId}
  (ho:o.op=.call { callee:=.builtin .append,args:=#[s,x],argTypes:=#[T,U] })
  {E:TypeId}(hE:EI P T E 1 1) (hEz:(P.info? E).map (fun i=>i.zero)=some (some (.int .u8 0))) (hU:P.underlying U=some .string) {base n:Nat}{v:Value}{l:List UInt8}(hs:a.eval s=v) (hown:w.ownsRow base E 1 v n (aj l))
  {t:List UInt8}(hx:a.eval x=.string (bs t)) (h63:n+t.length≤1000000000000) (hbase:base≤w.heap.size)
  (h:∀ v' w',w'.ownsRow base E 1 v' (n+t.length) (aj (l++t))→Hid (w.grownBy w' v.ownBlock)→Below base w w'→wpList P ops Q rest (a.put o.dst v') w') :
  wpList P ops Q (o::rest) a w:=by
 obtain ⟨i,z,hi,hz,hs1,hs2,LW⟩:=hE.info;have hzz:i.zero=some (.int .u8 0):=by rw [hi] at hEz;simpa using hEz
 have hsz:=au t;refine Lib.wpList_append_own_string w hgd s x T U ho base E i hE.ht hU hi hzz hs1 hs2 v n (aj l) hs hown (bs t) hx (by rw [hsz];unfold maxLen;omega) (by rw [hsz];omega) hbase ?_;intro v' w' hw hgr _;rw [hsz,tU] at hw;exact h v' w' (by simpa [aj] using hw) hgr (gZ (Below.refl _ _) hown (Below.refl _ _) hgr hbase)
theorem gY {w:World}{b0 b1:Nat}{e:TypeId}{size n:Nat}{v:Value}{xs:List Value}(h:w.ownsRow b1 e size v n xs) (hb:b0≤b1):w.ownsRow b0 e size v n xs:=by
 refine ⟨h.1,?_⟩;rcases h.2 with hn | ⟨g,cap,cur,rfl,hbg,rest⟩
 ·exact .inl hn
 ·exact .inr ⟨g,cap,cur,rfl,Nat.le_trans hb hbg,rest⟩
theorem below_drewN {B:Nat}{a w:World}(h:Below B a w) (n:Nat):Below B a (w.drewN n):=⟨h.os,h.tape,h.output,h.size,h.block⟩
theorem ag {w w1 w2:World}(h:Below w.heap.size w w1) (k:Below w1.heap.size w1 w2):Below w.heap.size w w2:=h.trans (k.mono h.size)
theorem Row.ext {w w':World}{size n:Nat}{A:Option Addr}{xs:List Value}(h:Row w w.heap.size size A n xs) (hb:Below w.heap.size w w'):Row w' w'.heap.size size A n xs:=(h.below hb).more hb.size
theorem Row.fresh (w:World) (E:TypeId) (C:Array Value) (m:Nat×Nat) {n:Nat}{xs:List Value}(hn:C.size=n) (hx:C.toList=xs) :
  Row (w.alloc (.cells C E m)) (w.alloc (.cells C E m)).heap.size 1 (some ⟨w.heap.size,0,none⟩) n xs:=by
 subst hn hx;refine ⟨by simp,fun _=>⟨w.heap.size,0,rfl,by simp,fun j u hu=>?_⟩⟩;rw [World.cell?_alloc_mark];simpa using hu
theorem aa (w:World) (o:Obj):Below w.heap.size w (w.alloc o):=(Below.refl _ _).alloc (Nat.le_refl _) _
theorem Row.dr {w:World}{size n:Nat}{A:Option Addr}{xs:List Value}(h:Row w w.heap.size size A n xs):Row w.drew w.drew.heap.size size A n xs:=h
theorem bq (w:World):Below w.heap.size w w.drew:=(Below.refl _ _).drew
def GF (r a b:Int):Bool:=decide (a≤r∧r≤b)
def dB (r:Int):Bool:=decide ((9≤r∧r≤13)∨r=32∨r=160∨r=8195∨r=12288)
def fQ (r:Int):Bool:=decide ((33≤r∧r≤47)∨(58≤r∧r≤64)∨(91≤r∧r≤96)∨(123≤r∧r≤126))
def gb (r:Int):Bool:=decide (((33≤r∧r≤47)∨(58≤r∧r≤64)∨(91≤r∧r≤96)∨(123≤r∧r≤126))∨r=161∨r=167∨(8208≤r∧r≤8231)∨r=12289∨r=12290)
def u6 (r:Int):Int:=if 65≤r∧r≤90 then r+32 else r
theorem rj {a b:Bool}(h:a=b):Ending.returned (.bool a)=.returned (.bool b):=by rw [h]
theorem nF (r a b:Int) (w:World) :
  Calls Tryz.prog 230 #[.int .i32 r,.int .i32 a,.int .i32 b] w fun e w'=>e=.returned (.bool (GF r a b))∧w=w':=by
 go_enter Tryz.func230,Tryz.ntmps230;go_wp2
 all_goals go_ret
 all_goals (refine ⟨rj ?_,rfl⟩;(try simp only [beq_iff_eq,beq_eq_false_iff_ne,ne_eq] at *);rw [Bool.eq_iff_iff];simp [GF];try omega)
theorem eO (r:Int) (w:World) :
  Calls Tryz.prog 212 #[.int .i32 r] w fun e w'=>e=.returned (.bool (dB r))∧w=w':=by
 go_enter Tryz.func212,Tryz.ntmps212;go_wp2
 all_goals go_ret
 all_goals (refine ⟨rj ?_,rfl⟩;(try simp only [beq_iff_eq,beq_eq_false_iff_ne,ne_eq] at *);rw [Bool.eq_iff_iff];simp [dB];try omega)
theorem kB (r:Int) (w:World) :
  Calls Tryz.prog 241 #[.int .i32 r] w fun e w'=>e=.returned (.bool (gb r))∧w=w':=by
 go_enter Tryz.func241,Tryz.ntmps241;go_wp2_with (first | (go_at_call 230;refine (nF _ _ _ _).mono ?_;rintro e w' ⟨rfl,rfl⟩))
 all_goals go_ret
 all_goals (refine ⟨rj ?_,rfl⟩;(try simp only [beq_iff_eq,beq_eq_false_iff_ne,ne_eq] at *);rw [Bool.eq_iff_iff];simp_all [gb,GF];try omega)
theorem H9 {a b:Int}(h:a=b):Ending.returned (.int .i32 a)=.returned (.int .i32 b):=by rw [h]
theorem KN (r:Int) (w:World) (h0:-2147483648≤r) (h1:r≤2147483647) :
  Calls Tryz.prog 213 #[.int .i32 r] w fun e w'=>e=.returned (.int .i32 (u6 r))∧w=w':=by
 go_enter Tryz.func213,Tryz.ntmps213
 by_cases h:65≤r∧r≤90
 ·obtain ⟨h2,h3⟩:=h
  have hb:GF r 65 90=true:=by simp [GF];omega
  go_wp2_with (go_at_call 230;refine (nF _ _ _ _).mono ?_;rintro e w' ⟨rfl,rfl⟩);go_ret;exact ⟨H9 (by unfold u6;rw [if_pos (by omega)];omega),rfl⟩
 ·have hb:GF r 65 90=false:=by simp [GF];omega
  go_wp2_with (go_at_call 230;refine (nF _ _ _ _).mono ?_;rintro e w' ⟨rfl,rfl⟩);go_ret;exact ⟨H9 (by unfold u6;rw [if_neg h]),rfl⟩
end Go.Proofs.YtddkjkockbcamaaGreatDoor
namespace Go.Proofs.YtddkjkockbcamaaGreatDoor.Cl
def cN (b:UInt8):Bool:=b==32||b==9
def step (c:Nat) (b:UInt8):Nat:=if b=9 then c-c%4+4 else c+1
theorem OZ (c:Nat):step c 9=c-c%4+4:=by simp [step]
theorem PO {b:UInt8}(c:Nat) (h:b≠9):step c b=c+1:=by simp [step,h]
theorem qJ (c:Nat) (b:UInt8):c<step c b∧step c b≤c+4:=by
 unfold step;split
 ·have:c%4<4:=Nat.mod_lt _ (by omega)
  omega
 ·omega
def lead (n:Int):List UInt8→Nat→Nat×Nat
 | [],c=>(c,0)
 | b::r,c=>if (c:Int)<n∧cN b=true then ((lead n r (step c b)).1,(lead n r (step c b)).2+1) else (c,0)
theorem SO {n:Int}{b:UInt8}{c:Nat}(r:List UInt8) (h:(c:Int)<n) (hg:cN b=true):lead n (b::r) c=((lead n r (step c b)).1,(lead n r (step c b)).2+1):=by
 rw [lead,if_pos ⟨h,hg⟩]
theorem zK {n:Int}{c:Nat}(l:List UInt8) (h:¬ (c:Int)<n):lead n l c=(c,0):=by
 cases l with
 | nil=>rfl
 | cons b r=>rw [lead,if_neg (fun k=>h k.1)]
theorem JU {n:Int}{b:UInt8}{c:Nat}(r:List UInt8) (h:cN b=false):lead n (b::r) c=(c,0):=by
 rw [lead,if_neg (fun k=>by rw [h] at k;exact absurd k.2 (by simp))]
theorem qC (n:Int) (l:List UInt8) (c:Nat):(lead n l c).2≤l.length∧c+(lead n l c).2≤(lead n l c).1∧(lead n l c).1≤c+4*(lead n l c).2:=by
 induction l generalizing c with
 | nil=>simp [lead]
 | cons b r ih =>
  rw [lead];have h1:=ih (step c b);have h2:=qJ c b
  split
  ·simp only [List.length_cons];omega
  ·simp
def fin (n:Int) (l:List UInt8) (k c:Nat):Nat×Nat:=((lead n (l.drop k) c).1,k+(lead n (l.drop k) c).2)
theorem MT (n:Int) (l:List UInt8):fin n l 0 0=lead n l 0:=by simp [fin]
theorem DO {n:Int}{l:List UInt8}{k c:Nat}(hk:k<l.length) (hc:(c:Int)<n) (hg:cN l[k]=true):fin n l (k+1) (step c l[k])=fin n l k c:=by
 unfold fin;rw [List.drop_eq_getElem_cons hk,SO _ hc hg];simp only [Prod.mk.injEq,true_and];omega
theorem Pk {n:Int}{k c:Nat}(l:List UInt8) (h:¬ (c:Int)<n):fin n l k c=(c,k):=by
 unfold fin;rw [zK _ h];rfl
theorem No {n:Int}{l:List UInt8}{k c:Nat}(hk:k<l.length) (hg:cN l[k]=false):fin n l k c=(c,k):=by
 unfold fin;rw [List.drop_eq_getElem_cons hk,JU _ hg];rfl
theorem Sh {n:Int}{l:List UInt8}{k c:Nat}(hk:¬ k<l.length):fin n l k c=(c,k):=by
 unfold fin;rw [List.drop_eq_nil_of_le (by omega)];rfl
def strip (n:Int) (l:List UInt8):List UInt8:=List.replicate ((lead n l 0).1-n.toNat) 32++l.drop (lead n l 0).2
theorem wH {n:Int}(l:List UInt8) (h:n≤0):lead n l 0=(0,0):=zK l (by omega)
theorem Lm {n:Int}(l:List UInt8) (h:n≤0):strip n l=l:=by
 unfold strip;rw [wH l h];simp
theorem ze (n:Int) (l:List UInt8) (c:Nat) (h:(c:Int)≤n+3):((lead n l c).1:Int)≤n+3:=by
 induction l generalizing c with
 | nil=>simpa [lead] using h
 | cons b r ih =>
  rw [lead]
  split
  ·rename_i hc
   have h2:=qJ c b;exact ih (step c b) (by have:=hc.1;omega)
  ·exact h
theorem nW (n:Int) (l:List UInt8):(strip n l).length≤l.length+3:=by
 by_cases h:n≤0
 ·rw [Lm l h];omega
 ·have h1:=ze n l 0 (by omega)
  unfold strip;simp only [List.length_append,List.length_replicate,List.length_drop];omega
def width:List UInt8→Nat→Nat
 | [],c=>c
 | b::r,c=>width r (step c b)
def inf:Int:=9223372036854775807
def small (l:List UInt8) (c:Nat):Prop:=c+4*l.length<9223372036854775807
def fl:List UInt8→Nat→List UInt8
 | [],_=>[]
 | b::r,c=>if b=9 then List.replicate (4-c%4) 32++fl r (c+(4-c%4)) else b::fl r (c+1)
def WH:List UInt8→Nat
 | []=>0
 | b::r=>if cN b then WH r+1 else 0
def rest (l:List UInt8):List UInt8:=l.drop (WH l)
end Go.Proofs.YtddkjkockbcamaaGreatDoor.Cl
namespace Go.Proofs.YtddkjkockbcamaaGreatDoor.Fn
open Go.Proofs.YtddkjkockbcamaaGreatDoor.Cl
def run (c:UInt8):List UInt8→Nat
 | []=>0
 | b::r=>if b=c then run c r+1 else 0
theorem Ak {c b:UInt8}(r:List UInt8) (h:b=c):run c (b::r)=run c r+1:=by simp [run,h]
theorem qK {c b:UInt8}(r:List UInt8) (h:b≠c):run c (b::r)=0:=by simp [run,h]
theorem gq (c:UInt8) (l:List UInt8):run c l≤l.length:=by
 induction l with
 | nil=>simp [run]
 | cons b r ih=>simp only [run,List.length_cons];split<;>omega
theorem jm {c:UInt8}{l:List UInt8}{k:Nat}(hk:k<l.length) (h:l[k]=c):run c (l.drop k)=run c (l.drop (k+1))+1:=by
 rw [List.drop_eq_getElem_cons hk,Ak _ h]
theorem oU {c:UInt8}{l:List UInt8}{k:Nat}(hk:k<l.length) (h:l[k]≠c):run c (l.drop k)=0:=by
 rw [List.drop_eq_getElem_cons hk,qK _ h]
theorem iT {c:UInt8}{l:List UInt8}{k:Nat}(hk:¬ k<l.length):run c (l.drop k)=0:=by
 rw [List.drop_eq_nil_of_le (by omega)];rfl
def lg:List UInt8→Nat
 | []=>0
 | b::r=>max (run 96 (b::r)) (lg r)
def lgs:List (List UInt8)→Nat
 | []=>0
 | s::r=>max (lg s) (lgs r)
def long (ls:List (List UInt8)):Nat:=max (lgs ls+1) 3
def front:List UInt8→List UInt8
 | []=>[]
 | b::r=>if cN b then front r else b::r
theorem rR {b:UInt8}(r:List UInt8) (h:cN b=true):front (b::r)=front r:=by simp [front,h]
theorem oV {b:UInt8}(r:List UInt8) (h:cN b=false):front (b::r)=b::r:=by simp [front,h]
theorem Ki (l:List UInt8):(front l).length≤l.length:=by
 induction l with
 | nil=>simp [front]
 | cons b r ih=>simp only [front];split<;>simp only [List.length_cons]<;>omega
def back:List UInt8→List UInt8
 | []=>[]
 | b::r=>if back r=[]∧cN b=true then [] else b::back r
theorem vP {b:UInt8}{r:List UInt8}(h:back r=[]) (hb:cN b=true):back (b::r)=[]:=by simp [back,h,hb]
theorem n9 {b:UInt8}(r:List UInt8) (hb:cN b=false):back (b::r)=b::back r:=by simp [back,hb]
theorem r5 {b:UInt8}{r:List UInt8}(h:back r≠[]):back (b::r)=b::back r:=by simp [back,h]
theorem xC (l:List UInt8):(back l).length≤l.length:=by
 induction l with
 | nil=>simp [back]
 | cons b r ih=>simp only [back];split<;>simp only [List.length_cons,List.length_nil]<;>omega
theorem xR (l:List UInt8) {x:UInt8}(h:cN x=true):back (l++[x])=back l:=by
 induction l with
 | nil=>rw [List.nil_append,vP rfl h];rfl
 | cons b r ih=>rw [List.cons_append,back,back,ih]
theorem vL (l:List UInt8) {x:UInt8}(h:cN x=false):back (l++[x])=l++[x]:=by
 induction l with
 | nil=>rw [List.nil_append,n9 _ h];rfl
 | cons b r ih=>rw [List.cons_append,r5 (by rw [ih];simp),ih]
def trim (l:List UInt8):List UInt8:=back (front l)
theorem p8 (l:List UInt8):(trim l).length≤l.length:=Nat.le_trans (xC _) (Ki _)
theorem GJ (l:List UInt8):front (back l)=back (front l):=by
 induction l with
 | nil=>rfl
 | cons b r ih =>
  cases hb:cN b with
  | true =>
   rw [rR _ hb,← ih]
   by_cases hr:back r=[]
   ·rw [vP hr hb,hr]
   ·rw [r5 hr,rR _ hb]
  | false=>rw [n9 _ hb,oV _ hb,oV _ hb,n9 _ hb]
structure Op where
 c:UInt8
 n:Nat
 ind:Nat
 info:List UInt8
def cl (l:List UInt8):Nat:=(lead inf l 0).1
def rs (l:List UInt8):List UInt8:=l.drop (lead inf l 0).2
def info (r:List UInt8) (c:UInt8):List UInt8:=trim (r.drop (run c r))
def cu (l:List UInt8):Option Op :=
 match rs l with
 | []=>none
 | c::r=>if cl l≤3∧(c=96∨c=126)∧3≤run c (c::r)∧¬ (c=96∧96∈info (c::r) c) then some ⟨c,run c (c::r),cl l,info (c::r) c⟩ else none
theorem wR {l:List UInt8}(h:rs l=[]):cu l=none:=by unfold cu;rw [h]
theorem Ht {l:List UInt8}{c:UInt8}{r:List UInt8}(h:rs l=c::r) (h1:cl l≤3) (h2:c=96∨c=126) (h3:3≤run c (c::r)) (h4:¬ (c=96∧96∈info (c::r) c)) :
  cu l=some ⟨c,run c (c::r),cl l,info (c::r) c⟩:=by unfold cu;rw [h];simp only;rw [if_pos ⟨h1,h2,h3,h4⟩]
theorem sC {l:List UInt8}{c:UInt8}{r:List UInt8}(h:rs l=c::r) (h1:¬ (cl l≤3∧(c=96∨c=126)∧3≤run c (c::r)∧¬ (c=96∧96∈info (c::r) c))) :
  cu l=none:=by unfold cu;rw [h];simp only;rw [if_neg h1]
def emp (l:List UInt8):Bool:=decide ((lead inf l 0).2=l.length)
def ends (c:UInt8) (n:Int) (l:List UInt8):Bool:=decide (1≤n∧cl l≤3∧n≤(run c (rs l):Int))&&emp ((rs l).drop (run c (rs l)))
theorem Ah {c:UInt8}{n:Int}{l:List UInt8}(h:¬ (1≤n∧cl l≤3∧n≤(run c (rs l):Int))):ends c n l=false:=by unfold ends;rw [decide_eq_false h];rfl
theorem Sn {c:UInt8}{n:Int}{l:List UInt8}(h:1≤n∧cl l≤3∧n≤(run c (rs l):Int)):ends c n l=emp ((rs l).drop (run c (rs l))):=by unfold ends;rw [decide_eq_true h];rfl
end Go.Proofs.YtddkjkockbcamaaGreatDoor.Fn
namespace Go.Proofs.YtddkjkockbcamaaGreatDoor.Cd
def nl (b:UInt8):UInt8:=if b=10 then 32 else b
def flat (l:List UInt8):List UInt8:=l.map nl
theorem j3 (l:List UInt8):(flat l).length=l.length:=by simp [flat]
def blanks (l:List UInt8):Bool:=l.all (·==32)
def clean (l:List UInt8):List UInt8 :=
 if blanks (flat l)=false∧(flat l).getD 0 0=32∧(flat l).getD ((flat l).length-1) 0=32 then mid (flat l) 1 ((flat l).length-1) else flat l
theorem zq (l:List UInt8):(clean l).length≤l.length:=by
 have h:=j3 l;unfold clean
 split
 ·unfold Go.Proofs.YtddkjkockbcamaaGreatDoor.mid;rw [List.length_take,List.length_drop];omega
 ·omega
theorem oo {l:List UInt8}{k:Nat}(h:k<l.length):flat (l.take (k+1))=flat (l.take k)++[nl l[k]]:=by
 rw [List.take_succ_eq_append_getElem h];unfold flat;rw [List.map_append];rfl
def findF:Nat→List UInt8→Nat→Nat→Option Nat
 | 0,_,_,_=>none
 | f+1,l,n,i=>if i<l.length then (if Fn.run 96 (l.drop i)=n then some i else findF f l n (i+max (Fn.run 96 (l.drop i)) 1)) else none
def find (l:List UInt8) (n i:Nat):Option Nat:=findF (l.length+1-i) l n i
theorem wk:∀ (f g:Nat) (l:List UInt8) (n i:Nat),l.length<f+i→l.length<g+i→findF f l n i=findF g l n i
 | 0,0,_,_,_,_,_=>rfl
 | 0,g+1,l,n,i,h,_=>by unfold findF;rw [if_neg (by omega)]
 | f+1,0,l,n,i,_,h=>by unfold findF;rw [if_neg (by omega)]
 | f+1,g+1,l,n,i,hf,hg=>by
  unfold findF;rw [wk f g l n _ (by omega) (by omega)]
theorem Qc {l:List UInt8}{n i:Nat}(h:l.length≤i):find l n i=none:=by
 unfold find;cases hf:l.length+1-i with
 | zero=>rfl
 | succ f=>unfold findF;rw [if_neg (by omega)]
theorem zM {l:List UInt8}{n i:Nat}(h:i<l.length):find l n i=if Fn.run 96 (l.drop i)=n then some i else find l n (i+max (Fn.run 96 (l.drop i)) 1):=by
 unfold find;obtain ⟨f,hf⟩:∃ f,l.length+1-i=f+1:=⟨l.length-i,by omega⟩
 rw [hf]
 conv=>lhs;unfold findF
 rw [if_pos h,wk f _ l n _ (by omega) (Nat.lt_of_lt_of_le (show l.length<(l.length+1-(i+max (Fn.run 96 (l.drop i)) 1))+(i+max (Fn.run 96 (l.drop i)) 1) by omega) (Nat.le_refl _))]
theorem Mt {l:List UInt8}{n i:Nat}(h:i<l.length) (hr:Fn.run 96 (l.drop i)=n):find l n i=some i:=by rw [zM h,if_pos hr]
theorem QH {l:List UInt8}{n i:Nat}(h:i<l.length) (hr:Fn.run 96 (l.drop i)≠n):find l n i=find l n (i+max (Fn.run 96 (l.drop i)) 1):=by rw [zM h,if_neg hr]
theorem aab {c:UInt8}:∀ {l:List UInt8}{j:Nat},j<Fn.run c l→l.getD j 0=c
 | [],j,h=>by simp [Fn.run] at h
 | b::r,j,h=>by
  by_cases hb:b=c
  ·rw [Fn.Ak r hb] at h
   cases j with
   | zero=>simpa using hb
   | succ j=>have:=aab (c:=c) (l:=r) (j:=j) (by omega);simpa using this
  ·rw [Fn.qK r hb] at h;omega
theorem pe {c:UInt8}:∀ {l:List UInt8},Fn.run c l<l.length→l.getD (Fn.run c l) 0≠c
 | [],h=>by simp at h
 | b::r,h=>by
  by_cases hb:b=c
  ·rw [Fn.Ak r hb] at h ⊢
   have:=pe (c:=c) (l:=r) (by simp at h;omega);simpa using this
  ·rw [Fn.qK r hb];simpa using hb
theorem mh (c:UInt8) (l:List UInt8) (i:Nat):Fn.run c (l.drop (i+Fn.run c (l.drop i)))=0:=by
 by_cases h:i+Fn.run c (l.drop i)<l.length
 ·refine Fn.oU h ?_
  have hb:=pe (c:=c) (l:=l.drop i) (by rw [List.length_drop];omega);simpa [List.getD,List.getElem?_eq_getElem h] using hb
 ·exact Fn.iT h
theorem Ij {c:UInt8}{l:List UInt8}(hn:Fn.run c l=0) (h:0<l.length):l.getD 0 0≠c:=by
 have:=pe (c:=c) (l:=l) (by omega);rwa [hn] at this
theorem find_spec {l:List UInt8}{n:Nat}(hn:1≤n):∀ (f i p:Nat),findF f l n i=some p →
  i≤p∧p<l.length∧Fn.run 96 (l.drop p)=n∧(p=i∨l.getD (p-1) 0≠96)∧∀ j,i≤j→j<p→(j=i∨l.getD (j-1) 0≠96)→Fn.run 96 (l.drop j)≠n
 | 0,_,_,h=>by simp [findF] at h
 | f+1,i,p,h=>by
  unfold findF at h
  by_cases hi:i<l.length
  ·rw [if_pos hi] at h
   by_cases hr:Fn.run 96 (l.drop i)=n
   ·rw [if_pos hr] at h
    injection h with h;subst h;exact ⟨Nat.le_refl _,hi,hr,.inl rfl,fun j h1 h2=>by omega⟩
   ·rw [if_neg hr] at h
    obtain ⟨k,hk⟩:∃ k,k=Fn.run 96 (l.drop i):=⟨_,rfl⟩
    rw [← hk] at h hr;obtain ⟨g1,g2,g3,g4,g5⟩:=find_spec hn f _ p h;refine ⟨by omega,g2,g3,?_,?_⟩
    ·rcases g4 with g4 | g4
     ·right
      rcases Nat.eq_zero_or_pos k with h0 | h0
      ·have:p-1=i:=by omega
       rw [this];have hb:=Ij (c:=96) (l:=l.drop i) (by omega) (by rw [List.length_drop];omega);simpa [List.getD] using hb
      ·exfalso
       have hb:=mh 96 l i;rw [← hk,show i+k=p by omega] at hb;omega
     ·exact .inr g4
    ·intro j h1 h2 h3
     by_cases hji:j=i
     ·subst hji;rw [← hk];exact hr
     ·by_cases hjn:j<i+max k 1
      ·exfalso
       rcases h3 with h3 | h3
       ·exact hji h3
       ·have hin:=aab (c:=96) (l:=l.drop i) (j:=j-1-i) (by omega)
        rw [List.getD_eq_getElem?_getD,List.getElem?_drop,show i+(j-1-i)=j-1 by omega] at hin;exact h3 (by rw [List.getD_eq_getElem?_getD];exact hin)
      ·refine g5 j (by omega) h2 ?_
       rcases h3 with h3 | h3
       ·exact absurd h3 hji
       ·exact .inr h3
  ·rw [if_neg hi] at h;simp at h
def opens (l:List UInt8) (at_:Int):Bool:=decide (0≤at_∧at_.toNat<l.length∧l.getD at_.toNat 0=96∧(at_.toNat=0∨l.getD (at_.toNat-1) 0≠96))
def span (l:List UInt8) (at_:Int):Option (List UInt8×Nat) :=
 if opens l at_=true then (find l (Fn.run 96 (l.drop at_.toNat)) (at_.toNat+Fn.run 96 (l.drop at_.toNat))).map fun i=>(clean (mid l (at_.toNat+Fn.run 96 (l.drop at_.toNat)) i),i+Fn.run 96 (l.drop at_.toNat)) else none
theorem jg {l:List UInt8}{at_:Int}(h:opens l at_=false):span l at_=none:=by unfold span;rw [if_neg (by rw [h];decide)]
theorem HU {l:List UInt8}{at_:Int}{n:Nat}(h:opens l at_=true) (hn:Fn.run 96 (l.drop at_.toNat)=n) :
  span l at_=(find l n (at_.toNat+n)).map fun i=>(clean (mid l (at_.toNat+n) i),i+n):=by unfold span;rw [if_pos h,hn]
theorem yI {l:List UInt8}{at_:Int}(h:opens l at_=true):1≤Fn.run 96 (l.drop at_.toNat):=by
 unfold opens at h;have h:=of_decide_eq_true h;have hk:=h.2.1;have:l[at_.toNat]=96:=by simpa [List.getD,List.getElem?_eq_getElem hk] using h.2.2.1
 rw [Fn.jm hk this];omega
theorem rP {l:List UInt8}{at_:Int}{t:List UInt8}{e:Nat}(h:span l at_=some (t,e)) :
  1≤Fn.run 96 (l.drop at_.toNat)∧e≤l.length∧at_.toNat+2*Fn.run 96 (l.drop at_.toNat)+1≤e∧Fn.run 96 (l.drop (e-Fn.run 96 (l.drop at_.toNat)))=Fn.run 96 (l.drop at_.toNat) ∧
   l.getD (e-Fn.run 96 (l.drop at_.toNat)-1) 0≠96∧(∀ i,at_.toNat+Fn.run 96 (l.drop at_.toNat)≤i→i<e-Fn.run 96 (l.drop at_.toNat)→l.getD (i-1) 0≠96→Fn.run 96 (l.drop i)≠Fn.run 96 (l.drop at_.toNat))∧t.length≤l.length:=by
 cases ho:opens l at_ with
 | false=>rw [jg ho] at h;simp at h
 | true =>
  have hn:=yI ho;obtain ⟨n,hne⟩:∃ n,n=Fn.run 96 (l.drop at_.toNat):=⟨_,rfl⟩
  rw [HU ho hne.symm] at h;rw [← hne] at hn ⊢;obtain ⟨p,hp,WY⟩:=Option.map_eq_some_iff.1 h;injection WY with e1 e2;subst e1 e2;obtain ⟨g1,g2,g3,g4,g5⟩:=find_spec hn _ _ _ hp;have hb:=mh 96 l at_.toNat;rw [← hne] at hb;have ZH:p≠at_.toNat+n:=by intro hc;rw [hc,hb] at g3;omega
  have g4':l.getD (p-1) 0≠96:=by
   rcases g4 with g4 | g4
   ·exact absurd g4 ZH
   ·exact g4
  have hle:=Fn.gq 96 (l.drop p);rw [List.length_drop,g3] at hle;rw [show p+n-n=p by omega];refine ⟨hn,by omega,by omega,g3,g4',fun i h1 h2 h3=>g5 i h1 h2 (.inr h3),?_⟩;have:=zq (mid l (at_.toNat+n) p);rw [eZ (by omega)] at this;omega
end Go.Proofs.YtddkjkockbcamaaGreatDoor.Cd
namespace Go.Proofs.YtddkjkockbcamaaGreatDoor
open Go.RowKit
def At (B:Nat) (v v':Value):Prop:=∀ g,v'.ownBlock=some g→v.ownBlock=some g∨B≤g
theorem bw {P:Program}{w0:World}{ops:Array Oper}{rest:List Oper}{o:Oper}{a:Act}{Q:Exit→Act→World→Prop}(hgd:o.guard=none) (s x:Operand) {T:TypeId}
  (ho:o.op=.call { callee:=.builtin .append,args:=#[s,x],argTypes:=#[T,T] })
  {E:TypeId}{size bytes:Nat}(hE:EI P T E size bytes) {base n:Nat}{v:Value}{xs:List Value}(hs:a.eval s=v) (hown:w0.ownsRow base E size v n xs)
  {g k c:Nat}{cs:Array Value}(hx:a.eval x=.slice (some ⟨g,0,none⟩) k c) (hg:g=w0.heap.size) (hcs:cs.size=k*size) (h1:∀ u∈cs.toList,u.oneCell'=true)
  (h63:n+k≤1000000000000) (hbytes:bytes≤100) (hbase:base≤w0.heap.size)
  (h:∀ v' w',w'.ownsRow base E size v' (n+k) (xs++cs.toList)→Hid (w0.grownBy w' v.ownBlock)→Below base w0 w'→Hid (At w0.heap.size v v')→wpList P ops Q rest (a.put o.dst v') w') :
  wpList P ops Q (o::rest) a (w0.alloc (.cells cs E)):=by
 obtain ⟨i,z,hi,hz,hs1,hs2,LW⟩:=hE.info;refine wpList_append_own_at _ hgd s x T ho base E i z size bytes hE.ht hi hz hs1 hs2 LW hE.pos v n xs hs (hown.alloc _) ⟨g,0,none⟩ k c cs.toList hx (by simpa using hcs) (yW w0 cs E hg) h1
  (by unfold maxLen;omega) (by have:=Nat.mul_le_mul h63 hbytes;omega) (by simp;omega) ?_
 intro v' w' hw hgr _ hat;refine h v' w' hw (jb hgr) (gZ (Below.refl _ _) (hown.alloc _) ((Below.refl _ _).alloc hbase _) hgr (by simp;omega)) ?_;intro q hq;rcases hat with e | e
 ·rw [e] at hq;exact .inl hq
 ·rw [e] at hq;simp at hq;exact .inr (by omega)
theorem blk {w w1:World}{o:Obj}(hb:Below (w.alloc o).heap.size (w.alloc o) w1):w1.heap[w.heap.size]? = some o :=
 (hb.block _ (by simp)).trans (heap_alloc_new w o)
theorem ah {w1:World}{g:Nat}{cs:Array Value}{t:TypeId}{fr:Nat×Nat}(h:w1.heap[g]? = some (.cells cs t fr)) (j:Nat):w1.cell? ⟨g,j,none⟩=cs[j]? := by
 simp [World.cell?,h]
theorem aW {w1:World}{g:Nat}{cs:Array Value}{t:TypeId}(h:w1.heap[g]? = some (.cells cs t (0,0))) (j:Nat):w1.frozen? ⟨g,j,none⟩=false:=by
 simp [World.frozen?,h]
theorem dw {w w1:World}{a b c d:Value}{t:TypeId}(hb:Below (w.alloc (.cells #[a,b,c,d] t)).heap.size (w.alloc (.cells #[a,b,c,d] t)) w1) :
  w1.cell? ⟨w.heap.size,0,none⟩=some a∧w1.cell? ⟨w.heap.size,1,none⟩=some b∧w1.cell? ⟨w.heap.size,2,none⟩=some c∧w1.cell? ⟨w.heap.size,3,none⟩=some d ∧
  ∀ j,w1.frozen? ⟨w.heap.size,j,none⟩=false:=by
 have h:=blk hb;exact ⟨ah h 0,ah h 1,ah h 2,ah h 3,aW h⟩
theorem eU {w w1:World}{o:Obj}(hb:Below (w.alloc o).heap.size (w.alloc o) w1) (a b c d:Value) :
  Below w.heap.size w ((((w1.setCell ⟨w.heap.size,0,none⟩ a).setCell ⟨w.heap.size,1,none⟩ b).setCell ⟨w.heap.size,2,none⟩ c).setCell ⟨w.heap.size,3,none⟩ d) :=
 (((((aa w o).trans (hb.mono (by simp))).setCell (Nat.le_refl _) _).setCell (Nat.le_refl _) _).setCell (Nat.le_refl _) _).setCell (Nat.le_refl _) _
theorem keep {w w1:World}{g:Nat}{o:Obj}(h:w.heap[g]? = some o) (hb:Below w.heap.size w w1):w1.heap[g]? = some o∧g<w1.heap.size:=by
 have hg:g<w.heap.size:=(Array.getElem?_eq_some_iff.1 h).1;have h1:=hb.block g hg;have hs:=hb.size;exact ⟨h1.trans h,by omega⟩
theorem four {w1:World}{g:Nat}{a b c d:Value}{t:TypeId}{fr:Nat×Nat}(h:w1.heap[g]? = some (.cells #[a,b,c,d] t fr)) :
  w1.cell? ⟨g,0,none⟩=some a∧w1.cell? ⟨g,1,none⟩=some b∧w1.cell? ⟨g,2,none⟩=some c∧w1.cell? ⟨g,3,none⟩=some d :=
 ⟨ah h 0,ah h 1,ah h 2,ah h 3⟩
theorem cm {fn:Func}{p u v:Tmp}{ty:TypeId}(h:fn.results=#[.cell p ty,.tmp u,.tmp v]) (tmps:Array Value) (P:Program) (w:World) :
  (results fn tmps).run P w =
   ((asAddr (tmps.getD p undef)).run P w).andThen fun a w₁=>((loadVar ty a).run P w₁).andThen fun x w₂=>.ok (.tuple #[x,tmps.getD u undef,tmps.getD v undef]) w₂:=by
 simp only [results,h];simp [Sem.run_bind,Result.andThen]
theorem three {w1:World}{g:Nat}{a b c:Value}{t:TypeId}{fr:Nat×Nat}(h:w1.heap[g]? = some (.cells #[a,b,c] t fr)) :
  w1.cell? ⟨g,0,none⟩=some a∧w1.cell? ⟨g,1,none⟩=some b∧w1.cell? ⟨g,2,none⟩=some c :=
 ⟨ah h 0,ah h 1,ah h 2⟩
inductive Part
 | blk (g:Nat) (cs:Array Value) (t:TypeId)
 | row (e:TypeId) (size:Nat) (v:Value) (n:Nat) (xs:List Value)
def Part.holds (w:World) (B:Nat):Part→Prop
 | .blk g cs t=>B≤g∧w.heap[g]? = some (.cells cs t (0,0))
 | .row e size v n xs=>w.ownsRow B e size v n xs
def Part.block:Part→Option Nat
 | .blk g _ _=>some g
 | .row _ _ v _ _=>v.ownBlock
structure Hp {K:Type}(w:World) (B:Nat) (m:K→Option Part):Prop where
 holds:∀ k a,m k=some a→a.holds w B
 apart:∀ k k' a a' g,m k=some a→m k'=some a'→a.block=some g→a'.block=some g→k=k'
theorem Part.lt {w:World}{B:Nat}{a:Part}(h:a.holds w B) {g:Nat}(hg:a.block=some g):B≤g∧g<w.heap.size:=by
 cases a with
 | blk g' cs t =>
  simp only [Part.block,Option.some.injEq] at hg;subst hg;exact ⟨h.1,(Array.getElem?_eq_some_iff.1 h.2).1⟩
 | row e size v n xs=>exact World.ownsRow.lt (show w.ownsRow B e size v n xs from h) g hg
theorem Part.kept {w w':World}{B:Nat}{a:Part}(h:a.holds w B) {row:Option Nat}(hg:w.grownBy w' row) (hne:a.block=none∨a.block≠row):a.holds w' B:=by
 cases a with
 | blk g cs t =>
  refine ⟨h.1,?_⟩;rw [hg.block g (Array.getElem?_eq_some_iff.1 h.2).1 (by rcases hne with h | h;cases h;exact h)];exact h.2
 | row e size v n xs=>exact World.ownsRow.kept (show w.ownsRow B e size v n xs from h) hg hne
theorem JO {w w':World}(hb:Below w.heap.size w w') (row:Option Nat):w.grownBy w' row:=⟨hb.os,hb.tape,hb.output,hb.size,fun k hk _=>hb.block k hk⟩
theorem ax (w:World) (a:Addr) (v:Value):w.grownBy (w.setCell a v) (some a.block):=by
 have hb:Below 0 w (w.setCell a v):=(Below.refl 0 w).setCell (Nat.zero_le _) v;exact ⟨hb.os,hb.tape,hb.output,hb.size,fun k _ hne=>Below.heap_setCell _ _ _ _ (fun e=>hne (by rw [e]))⟩
section
variable {K:Type}{w w':World}{B:Nat}{m:K→Option Part}
theorem Hp.ext (h:Hp w B m) (hb:Below w.heap.size w w'):Hp w' B m:=by
 refine ⟨fun k a ha=>?_,h.apart⟩;have:=h.holds k a ha;cases a with
 | blk g cs t=>exact ⟨this.1,(hb.block g (Array.getElem?_eq_some_iff.1 this.2).1).trans this.2⟩
 | row e size v n xs=>exact bQ (show w.ownsRow B e size v n xs from this) hb
theorem Hp.put (h:Hp w B m) {m':K→Option Part}{k:K}{a a':Part}(hk:m k=some a) (hg:w.grownBy w' a.block) (ha:a'.holds w' B)
  (hat:∀ g,a'.block=some g→a.block=some g∨w.heap.size≤g) (hm:∀ j,j≠k→m' j=m j) (hk':m' k=some a'):Hp w' B m':=by
 refine ⟨fun j b hb=>?_,fun i j b c g hi hj uE Ca=>?_⟩
 ·by_cases hjk:j=k
  ·subst hjk;rw [hk'] at hb;cases hb;exact ha
  ·rw [hm j hjk] at hb
   refine Part.kept (h.holds j b hb) hg ?_;cases Rc:b.block with
   | none=>exact .inl rfl
   | some g=>exact .inr fun he=>hjk (h.apart j k b a g hb hk Rc he.symm)
 ·by_cases hik:i=k
  ·by_cases hjk:j=k
   ·rw [hik,hjk]
   ·subst hik
    rw [hk'] at hi;cases hi;rw [hm j hjk] at hj;rcases hat g uE with h1 | h1
    ·exact h.apart i j a c g hk hj h1 Ca
    ·exact absurd (Part.lt (h.holds j c hj) Ca).2 (by omega)
  ·by_cases hjk:j=k
   ·subst hjk
    rw [hk'] at hj;cases hj;rw [hm i hik] at hi;rcases hat g Ca with h1 | h1
    ·exact h.apart i j b a g hi hk uE h1
    ·exact absurd (Part.lt (h.holds i b hi) uE).2 (by omega)
   ·rw [hm i hik] at hi;rw [hm j hjk] at hj
    exact h.apart i j b c g hi hj uE Ca
theorem Hp.more (h:Hp w B m) {m':K→Option Part}{k:K}{a':Part}(hk:m k=none) (hb:Below w.heap.size w w') (ha:a'.holds w' B)
  (hat:∀ g,a'.block=some g→w.heap.size≤g) (hm:∀ j,j≠k→m' j=m j) (hk':m' k=some a'):Hp w' B m':=by
 have h':=h.ext hb;refine ⟨fun j b hb=>?_,fun i j b c g hi hj uE Ca=>?_⟩
 ·by_cases hjk:j=k
  ·subst hjk;rw [hk'] at hb;cases hb;exact ha
  ·rw [hm j hjk] at hb;exact h'.holds j b hb
 ·by_cases hik:i=k
  ·by_cases hjk:j=k
   ·rw [hik,hjk]
   ·subst hik
    rw [hk'] at hi;cases hi;rw [hm j hjk] at hj;exact absurd (Part.lt (h.holds j c hj) Ca).2 (by have:=hat g uE;omega)
  ·by_cases hjk:j=k
   ·subst hjk
    rw [hk'] at hj;cases hj;rw [hm i hik] at hi;exact absurd (Part.lt (h.holds i b hi) uE).2 (by have:=hat g Ca;omega)
   ·rw [hm i hik] at hi;rw [hm j hjk] at hj
    exact h.apart i j b c g hi hj uE Ca
theorem Hp.store (h:Hp w B m) {m':K→Option Part}{k:K}{g j:Nat}{cs:Array Value}{t:TypeId}{v:Value}(hk:m k=some (.blk g cs t))
  (hm:∀ j,j≠k→m' j=m j) (hk':m' k=some (.blk g (cs.setIfInBounds j v) t)):Hp (w.setCell ⟨g,j,none⟩ v) B m':=by
 have hh:Part.holds w B (.blk g cs t):=h.holds k _ hk;exact h.put (a':=.blk g (cs.setIfInBounds j v) t) hk (ax w ⟨g,j,none⟩ v) ⟨hh.1,heap_setCell_same w g j cs t v hh.2⟩ (fun _ h=>.inl h) hm hk'
theorem Hp.same (h:Hp w B m) {m':K→Option Part}(hm:∀ k,m' k=m k):Hp w B m':=by
 rw [show m'=m from funext hm];exact h
theorem Hp.base (h:Hp w B m) {k:K}{g:Nat}{cs:Array Value}{t:TypeId}(hk:m k=some (.blk g cs t)):B≤g∧g<w.heap.size∧w.heap[g]? = some (.cells cs t (0,0)):=by
 have hh:Part.holds w B (.blk g cs t):=h.holds k _ hk;exact ⟨hh.1,(Array.getElem?_eq_some_iff.1 hh.2).1,hh.2⟩
theorem Hp.own (h:Hp w B m) {k:K}{e:TypeId}{size n:Nat}{v:Value}{xs:List Value}(hk:m k=some (.row e size v n xs)):w.ownsRow B e size v n xs:=h.holds k _ hk
end
def upd {K:Type} [DecidableEq K] (m:K→Option Part) (k:K) (a:Part):K→Option Part:=fun j=>if j=k then some a else m j
section
variable {K:Type} [DecidableEq K] {w w':World}{B:Nat}{m:K→Option Part}
theorem upd_same (m:K→Option Part) (k:K) (a:Part):upd m k a k=some a:=if_pos rfl
theorem ai (m:K→Option Part) {k j:K}(a:Part) (h:j≠k):upd m k a j=m j:=if_neg h
theorem Hp.uo (h:Hp w B m) {k:K}{a:Part}(a':Part) (hk:m k=some a) (hg:w.grownBy w' a.block) (ha:a'.holds w' B)
  (hat:∀ g,a'.block=some g→a.block=some g∨w.heap.size≤g):Hp w' B (upd m k a') :=
 h.put hk hg ha hat (fun _ hj=>ai m a' hj) (upd_same m k a')
theorem Hp.yJ (h:Hp w B m) {k:K}(a':Part) (hk:m k=none) (hb:Below w.heap.size w w') (ha:a'.holds w' B)
  (hat:∀ g,a'.block=some g→w.heap.size≤g):Hp w' B (upd m k a') :=
 h.more hk hb ha hat (fun _ hj=>ai m a' hj) (upd_same m k a')
theorem Hp.AB (h:Hp w B m) {k:K}{g:Nat}{cs:Array Value}{t:TypeId}(j:Nat) (v:Value) (hk:m k=some (.blk g cs t)) :
  Hp (w.setCell ⟨g,j,none⟩ v) B (upd m k (.blk g (cs.setIfInBounds j v) t)) :=
 h.store hk (fun _ hj=>ai m _ hj) (upd_same m k _)
end
theorem Row.take {w:World}{B size n k:Nat}{A:Option Addr}{xs:List Value}(h:Row w B size A n xs) (hk:k≤n):Row w B size A k (xs.take (k*size)):=by
 refine ⟨?_,fun hp=>?_⟩
 ·rw [List.length_take,h.1]
  exact Nat.min_eq_left (Nat.mul_le_mul_right size hk)
 ·obtain ⟨b,o,hA,hb,hc⟩:=h.2 (by omega)
  refine ⟨b,o,hA,hb,fun j u hj=>hc j u ?_⟩;rw [List.getElem?_take] at hj
  split at hj
  ·exact hj
  ·cases hj
theorem cell_of {w:World}{g j:Nat}{cs:List Value}{t:TypeId}{fr:Nat×Nat}{v:Value}(h:w.heap[g]? = some (.cells ⟨cs⟩ t fr)) (hj:cs[j]? = some v):w.cell? ⟨g,j,none⟩=some v:=by
 rw [ah h j];simpa using hj
theorem Row.jV (w:World) (E:TypeId) (C:Array Value) {size n:Nat}{xs:List Value}(hn:C.size=n*size) (hx:C.toList=xs) :
  Row (w.alloc (.cells C E)) (w.alloc (.cells C E)).heap.size size (some ⟨w.heap.size,0,none⟩) n xs:=by
 subst hx;refine ⟨by simpa using hn,fun _=>⟨w.heap.size,0,rfl,by simp,fun j u hu=>?_⟩⟩;rw [ah (heap_alloc_new w _)];simpa using hu
theorem uX {P:Program}{w:World}{T ty:TypeId}{E:TypeId}{size bytes:Nat}(hE:EI P T E size bytes) {base n:Nat}{v:Value}{xs:List Value}(hown:w.ownsRow base E size v n xs)
  {B m c:Nat}{A:Option Addr}{news:List Value}(hr:Row w B size A m news) (h1:∀ u∈news,u.oneCell'=true) (h63:n+m≤1000000000000) (hbytes:bytes≤100) (hbase:base≤w.heap.size) :
  ∃ v' w',(Builtin.append_ #[T,T] ty #[v,.slice A m c]).run P w=.ok v' w'∧w'.ownsRow base E size v' (n+m) (xs++news)∧w.grownBy w' v.ownBlock∧At w.heap.size v v':=by
 obtain ⟨i,z,hi,hz,hs1,hs2,LW⟩:=hE.info;rcases Nat.eq_zero_or_pos m with h0 | h0
 ·subst h0
  have hn:news=[]:=List.eq_nil_of_length_eq_zero (by simpa using hr.1);subst hn;refine ⟨v,w,?_,by simpa using hown,World.grownBy.refl w _,fun _ h=>.inl h⟩;rcases A with _ | ad
  ·rcases hown.2 with ⟨rfl,rfl⟩ | ⟨g,cap,cur,rfl,_,_,hnc,_⟩
   ·simp [Builtin.append_,run_underlying hE.ht,sizeOf,typeInfo,hi,Builtin.lenOf,Builtin.firstCells]
   ·simp [Builtin.append_,run_underlying hE.ht,sizeOf,typeInfo,hi,Builtin.lenOf,Builtin.firstCells,hnc,storeCells]
  ·rcases hown.2 with ⟨rfl,rfl⟩ | ⟨g,cap,cur,rfl,_,_,hnc,_⟩
   ·simp [Builtin.append_,run_underlying hE.ht,sizeOf,typeInfo,hi,Builtin.lenOf,Builtin.firstCells,loadCells,loadCellsFrom]
   ·simp [Builtin.append_,run_underlying hE.ht,sizeOf,typeInfo,hi,Builtin.lenOf,Builtin.firstCells,loadCells,loadCellsFrom,hnc,storeCells]
 ·obtain ⟨b,o,rfl,_,hc⟩:=hr.2 h0
  have hcell:∀ j u,news[j]? = some u→w.cell? ((⟨b,o,none⟩:Addr).add j)=some u:=by
   intro j u hu;have:(⟨b,o,none⟩:Addr).add j=⟨b,o+j,none⟩:=by unfold Addr.add;split<;>simp_all
   rw [this];exact hc j u hu
  obtain ⟨v',w',h2,h3,h4,_,h5⟩:=run_append_own_at (P:=P) w base T ty E i z size bytes hE.ht hi hz hs1 hs2 LW hE.pos v n xs hown ⟨b,o,none⟩ m c news hr.1 hcell h1
   (by unfold maxLen;omega) (by have:=Nat.mul_le_mul h63 hbytes;omega) hbase
  refine ⟨v',w',h2,h3,h4,fun q hq=>?_⟩;rcases h5 with e | e
  ·rw [e] at hq;exact .inl hq
  ·rw [e] at hq;simp at hq;exact .inr (by omega)
theorem dX {P:Program}{w:World}{o:Oper}{a:Act}{K:Act→World→Prop}{Q:Exit→Act→World→Prop}(s x:Operand) {T:TypeId}
  (ho:o.op=.call { callee:=.builtin .append,args:=#[s,x],argTypes:=#[T,T] })
  {E:TypeId}{size bytes:Nat}(hE:EI P T E size bytes) {base n:Nat}{v:Value}{xs:List Value}(hs:a.eval s=v) (hown:w.ownsRow base E size v n xs)
  {B m c:Nat}{A:Option Addr}{news:List Value}(hx:a.eval x=.slice A m c) (hr:Row w B size A m news) (h1:∀ u∈news,u.oneCell'=true) (h63:n+m≤1000000000000) (hbytes:bytes≤100) (hbase:base≤w.heap.size)
  (h:∀ v' w',w'.ownsRow base E size v' (n+m) (xs++news)→Hid (w.grownBy w' v.ownBlock)→Below base w w'→Hid (At w.heap.size v v')→K (a.put o.dst v') w'):o.wp P a w K Q:=by
 obtain ⟨v',w',hrun,h2,h3,h4⟩:=uX (ty:=o.type) (c:=c) hE hown hr h1 h63 hbytes hbase;unfold Oper.wp execOp;simp only [ho,resolve,invoke,builtin,Sem.run_bind,Sem.run_pure,Result.andThen_ok,List.map_toArray,List.map_cons,List.map_nil,hs,hx,hrun];exact h v' w' h2 h3 (gZ (Below.refl _ _) hown (Below.refl _ _) h3 hbase) h4
theorem bC {S:List UInt8}{i:Nat}(h:i<S.length) (w:World) :
  (Instr.index 9 (.string (bs S)) (.int .i64 (i:Int))).run Tryz.prog w=.ok (.int .u8 (S[i].toNat:Int)) w:=by
 have hs:=au S;rw [run_index_string w 9 (bs S) .i64 (i:Int) Tryz.underlying9,dif_pos ⟨by omega,by omega⟩]
 rfl
theorem iP {b:UInt8}{n:Nat}(hn:n<256) (h:b=UInt8.ofNat n):((b.toNat:Int)==(n:Int))=true:=by
 subst h;simp;omega
theorem eo {b:UInt8}{n:Nat}(hn:n<256) (h:b≠UInt8.ofNat n):((b.toNat:Int)==(n:Int))=false:=by
 rw [beq_eq_false_iff_ne];intro he;apply h;have:b.toNat=n:=by omega
 subst this;simp
theorem yp (b:UInt8):(((b.toNat:Int)==(32:Int))=true∧Cl.cN b=true)∨(((b.toNat:Int)==(32:Int))=false∧((b.toNat:Int)==(9:Int))=true∧Cl.cN b=true)∨(((b.toNat:Int)==(32:Int))=false∧((b.toNat:Int)==(9:Int))=false∧Cl.cN b=false):=by
 by_cases h:b=32
 ·exact .inl ⟨iP (n:=32) (by omega) h,by subst h;rfl⟩
 ·have h1:=eo (n:=32) (by omega) h
  by_cases h':b=9
  ·exact .inr (.inl ⟨h1,iP (n:=9) (by omega) h',by subst h';rfl⟩)
  ·exact .inr (.inr ⟨h1,eo (n:=9) (by omega) h',by simp [Cl.cN,h,h']⟩)
theorem b8 {S:List UInt8}{i:Nat}(h:i≤S.length) (w:World) :
  (Instr.slice 9 (.string (bs S)) (some (.int .i64 (i:Int))) none none).run Tryz.prog w=.ok (.string (bs (S.drop i))) w:=by
 have hs:=au S;have he:(bs S).extract i (bs S).size=bs (S.drop i):=by
  apply ByteArray.ext;simp only [bs,ByteArray.data_extract,List.extract_toArray,List.extract_eq_take_drop];rw [List.take_of_length_le (by simp [ByteArray.size])]
 have h1:(0:Int)≤(i:Int)∧(i:Int)≤((bs S).size:Int):=by omega
 simp [Instr.slice,run_underlying Tryz.underlying9,Instr.sliceBounds,run_sliceBound,h1,he,go_sem]
theorem wJ {S:List UInt8}{i:Nat}(h:i≤S.length) (w:World) :
  (Instr.slice 9 (.string (bs S)) none (some (.int .i64 (i:Int))) none).run Tryz.prog w=.ok (.string (bs (S.take i))) w:=by
 have hs:=au S;have he:(bs S).extract 0 i=bs (S.take i):=by
  apply ByteArray.ext;simp only [bs,ByteArray.data_extract,List.extract_toArray,List.extract_eq_take_drop];simp
 have h1:(0:Int)≤(i:Int)∧(i:Int)≤((bs S).size:Int):=by omega
 simp [Instr.slice,run_underlying Tryz.underlying9,Instr.sliceBounds,run_sliceBound,h1,he,go_sem]
theorem jc {a b:UInt8}(h:a=b):((a.toNat:Int)==(b.toNat:Int))=true:=by subst h;simp
theorem fJ {a b:UInt8}(h:a≠b):((a.toNat:Int)==(b.toNat:Int))=false:=by
 rw [beq_eq_false_iff_ne];intro he;exact h (UInt8.toNat_inj.1 (by omega))
theorem kU {a b:Int}(h:a=b):Ending.returned (.int .i64 a)=.returned (.int .i64 b):=by rw [h]
theorem uH {S:List UInt8}{i j:Nat}(h:i≤j) (hj:j≤S.length) (w:World) :
  (Instr.slice 9 (.string (bs S)) (some (.int .i64 (i:Int))) (some (.int .i64 (j:Int))) none).run Tryz.prog w=.ok (.string (bs (mid S i j))) w:=by
 have hs:=au S;have he:(bs S).extract i j=bs (mid S i j):=by
  apply ByteArray.ext;simp only [bs,ByteArray.data_extract,List.extract_toArray,List.extract_eq_take_drop,mid]
 have hr:=run_slice_string (P:=Tryz.prog) w 9 (bs S) .i64 .i64 (i:Int) (j:Int) Tryz.underlying9 (by omega) (by omega) (by omega);rw [hr,show ((i:Int)).toNat=i from by omega,show ((j:Int)).toNat=j from by omega,he]
theorem Fe {S:List UInt8}{i:Nat}(h:i<S.length) {v u:Int}(hv:v=(i:Int)) (hu:u=(i:Int)+1) (w:World) :
  (Instr.slice 9 (.string (bs S)) (some (.int .i64 v)) (some (.int .i64 u)) none).run Tryz.prog w=.ok (.string (bs [S[i]])) w:=by
 subst hv hu;have hs:=au S;have he:(bs S).extract i (i+1)=bs [S[i]]:=by
  apply ByteArray.ext;simp only [bs,ByteArray.data_extract,List.extract_toArray,List.extract_eq_take_drop];rw [List.drop_eq_getElem_cons h,show i+1-i=1 from by omega];rfl
 have hr:=run_slice_string (P:=Tryz.prog) w 9 (bs S) .i64 .i64 (i:Int) ((i:Int)+1) Tryz.underlying9 (by omega) (by omega) (by omega);rw [hr,show ((i:Int)).toNat=i from by omega,show ((i:Int)+1).toNat=i+1 from by omega,he]
theorem Ij {S:List UInt8}{i:Nat}(h:i<S.length) (w:World) :
  (Instr.slice 9 (.string (bs S)) (some (.int .i64 (i:Int))) (some (.int .i64 ((i:Int)+1))) none).run Tryz.prog w=.ok (.string (bs [S[i]])) w:=Fe h rfl rfl w
theorem fE {S:List UInt8}{i:Nat}(h:i<S.length) {v:Int}(hv:v=(i:Int)) (w:World) :
  (Instr.index 9 (.string (bs S)) (.int .i64 v)).run Tryz.prog w=.ok (.int .u8 (S[i].toNat:Int)) w:=by
 subst hv;exact bC h w
theorem nv:(bs []).toList.isEmpty=true:=by rw [bG];rfl
theorem fC (c:UInt8) (r:List UInt8):(bs (c::r)).toList.isEmpty=false:=by rw [bG];rfl
end Go.Proofs.YtddkjkockbcamaaGreatDoor
namespace Go.Proofs.YtddkjkockbcamaaGreatDoor.Lf
open Go.Proofs.YtddkjkockbcamaaGreatDoor.Cl (cN strip)
open Go.Proofs.YtddkjkockbcamaaGreatDoor.Fn (cl rs run trim back emp)
def stop:List UInt8→Bool
 | []=>true
 | b::_=>cN b
def cX:List UInt8→List UInt8
 | []=>[]
 | b::r=>if cX r=[]∧b=35 then [] else b::cX r
theorem r7 (l:List UInt8):cX (l++[35])=cX l:=by
 induction l with
 | nil=>rfl
 | cons b r ih=>rw [List.cons_append,cX,cX,ih]
theorem rT (l:List UInt8) {x:UInt8}(h:x≠35):cX (l++[x])=l++[x]:=by
 induction l with
 | nil=>simp [cX,h]
 | cons b r ih=>rw [List.cons_append,cX,ih,if_neg (by simp)]
theorem xm (l:List UInt8):(cX l).length≤l.length:=by
 induction l with
 | nil=>simp [cX]
 | cons b r ih=>simp only [cX];split<;>simp only [List.length_cons,List.length_nil]<;>omega
def closed (u:List UInt8):Bool:=match u.getLast? with
 | none=>true
 | some b=>cN b
def title (t:List UInt8):List UInt8:=if closed (cX t)=true then back (cX t) else t
def fS (l:List UInt8):Option (Nat×List UInt8) :=
 if cl l≤3∧1≤run 35 (rs l)∧run 35 (rs l)≤6∧stop ((rs l).drop (run 35 (rs l)))=true then some (run 35 (rs l),title (trim ((rs l).drop (run 35 (rs l))))) else none
def CN (c:UInt8):Bool:=c==42||c==45||c==95
def along (c b:UInt8):Bool:=b==c||cN b
def tD (l:List UInt8):Bool:=match rs l with
 | []=>false
 | c::r=>decide (cl l≤3)&&CN c&&(c::r).all (along c)&&decide (3≤(c::r).count c)
theorem S7 {l:List UInt8}(h:rs l=[]):tD l=false:=by unfold tD;rw [h]
theorem SN {l:List UInt8}(h:¬ cl l≤3):tD l=false:=by unfold tD;split<;>simp [h]
theorem O7 {l r:List UInt8}{c:UInt8}(h:rs l=c::r) (h3:cl l≤3):tD l=(CN c&&(c::r).all (along c)&&decide (3≤(c::r).count c)):=by
 unfold tD;rw [h];simp [h3]
def quote (l:List UInt8):Option (List UInt8):=match rs l with
 | []=>none
 | c::r=>if cl l≤3∧c=62 then some (strip 1 r) else none
def bullet (c:UInt8):Bool:=c==42||c==45||c==43
def inner (n:Nat):Nat:=if 4<n then 1 else n
def item (l:List UInt8):Option (UInt8×Nat×List UInt8):=match rs l with
 | []=>none
 | c::r =>
  if cl l≤3∧bullet c=true∧tD l=false∧stop r=true then
   if emp r=true then some (c,cl l+2,[]) else some (c,cl l+1+inner (cl r),strip (inner (cl r)) r)
  else none
theorem Kz (t:List UInt8):(title t).length≤t.length:=by
 unfold title
 split
 ·have:=Fn.xC (cX t)
  have:=xm t;omega
 ·exact Nat.le_refl _
end Go.Proofs.YtddkjkockbcamaaGreatDoor.Lf
namespace Go.Proofs.YtddkjkockbcamaaGreatDoor.Bk
open Go.Proofs.YtddkjkockbcamaaGreatDoor.Cl (strip)
open Go.Proofs.YtddkjkockbcamaaGreatDoor.Fn (cl rs emp trim)
structure Nd where
 par:Option Nat
 kind:Nat
 level:Nat
 text:List UInt8
 info:List UInt8
 line:Nat
 sign:UInt8
structure YQ where
 n:Nat
 col:Option Nat
structure Pl where
 line:Nat
 op:Fn.Op
 first:Nat
 last:Nat
 closed:Bool
structure St where
 ns:List Nd
 opn:List YQ
 para:Option Nat
 fence:Option Nat
 f:Fn.Op
 line:Nat
 places:List Pl
def vq (i:Nat):List Nd→Nat→List Nat
 | [],_=>[]
 | x::r,o=>if x.par=some i then o::vq i r (o+1) else vq i r (o+1)
def kids (ns:List Nd) (i:Nat):List Nat:=vq i ns 0
def ordered (ns:List Nd):Prop:=∀ (j:Nat) (x:Nd) (p:Nat),ns[j]? = some x→x.par=some p→p<j
def Iz (ns:List Nd) (i:Nat) (t:List UInt8):List Nd:=ns.modify i fun x=>{ x with text:=t }
def last (st:St):Nat:=match st.opn.getLast? with
 | none=>0
 | some b=>b.n
def shut (k:Nat) (st:St):St:={ st with opn:=st.opn.take k,para:=none,fence:=none }
def add (kind level:Nat) (text info:List UInt8) (sign:UInt8) (st:St):St:={ st with ns:=st.ns++[⟨some (last st),kind,level,text,info,st.line,sign⟩] }
def Nc (ns:List Nd) (i:Nat) (c:UInt8):Option Nat:=match (kids ns i).getLast? with
 | none=>none
 | some k=>match ns[k]? with
  | none=>none
  | some x=>if x.kind=2∧x.sign=c then some k else none
def item (c:UInt8) (n:Nat) (st:St):St :=
 match Nc st.ns (last st) c with
 | some l=>{ st with ns:=st.ns++[⟨some l,3,0,[],[],st.line,0⟩],opn:=st.opn++[⟨st.ns.length,some n⟩] }
 | none=>{ st with ns:=st.ns++[⟨some (last st),2,0,[],[],st.line,c⟩,⟨some st.ns.length,3,0,[],[],st.line,0⟩],opn:=st.opn++[⟨st.ns.length+1,some n⟩] }
def listed (c:UInt8) (st:St):St×Nat:=match Nc st.ns (last st) c with
 | some l=>(st,l)
 | none=>({ st with ns:=st.ns++[⟨some (last st),2,0,[],[],st.line,c⟩] },st.ns.length)
def opened (b:YQ) (st:St):St:={ st with opn:=st.opn++[b] }
def put (x:Nd) (st:St):St:={ st with ns:=st.ns++[x] }
def quote (st:St):St:={ st with ns:=st.ns++[⟨some (last st),1,0,[],[],st.line,0⟩],opn:=st.opn++[⟨st.ns.length,none⟩] }
def push (o:Option (UInt8×Nat)) (st:St):St:=match o with
 | none=>quote st
 | some (c,n)=>item c n st
def take:List YQ→List UInt8→Nat×List UInt8
 | [],s=>(0,s)
 | b::r,s=>match b.col with
  | none=>match Lf.quote s with
   | none=>(0,s)
   | some q=>((take r q).1+1,(take r q).2)
  | some n=>if emp s=true then ((take r s).1+1,(take r s).2) else if cl s<n then (0,s) else ((take r (strip n s)).1+1,(take r (strip n s)).2)
def opener (s:List UInt8):Option (Option (UInt8×Nat)×List UInt8):=match Lf.quote s with
 | some q=>some (none,q)
 | none=>match Lf.item s with
  | some (c,n,r)=>some (some (c,n),r)
  | none=>none
def grow:Nat→St→List UInt8→St×List UInt8
 | 0,st,s=>(st,s)
 | m+1,st,s=>match opener s with
  | none=>(st,s)
  | some (o,r)=>grow m (push o st) r
def leaf (s:List UInt8) (k:Nat) (began:Bool) (st:St):St :=
 if emp s=true then shut k st
 else match Lf.fS s with
  | some (n,t)=>add 5 n t [] 0 (shut k st)
  | none =>
   if Lf.tD s=true then add 6 0 [] [] 0 (shut k st)
   else match Fn.cu s with
    | some f =>
     { add 7 0 [] f.info 0 (shut k st) with fence:=some st.ns.length,f:=f,places:=if (st.opn.take k).isEmpty=true then st.places++[⟨st.line,f,st.line+1,0,false⟩] else st.places }
    | none=>match st.para,began with
     | some p,false=>{ st with ns:=Iz st.ns p (((st.ns[p]?.map (·.text)).getD [])++10::trim s) }
     | _,_=>{ add 4 0 (trim s) [] 0 (shut k st) with para:=some st.ns.length }
def yQ (n:Nat) (c:Bool) (ps:List Pl):List Pl:=match ps.getLast? with
 | none=>ps
 | some p=>ps.dropLast++[{ p with last:=n,closed:=c }]
def fenced (s:List UInt8) (i:Nat) (st:St):St :=
 if Fn.ends st.f.c st.f.n s=true then { st with fence:=none,places:=if st.opn.isEmpty=true then yQ st.line true st.places else st.places }
 else { st with ns:=Iz st.ns i (((st.ns[i]?.map (·.text)).getD [])++strip st.f.ind s++[10]) }
def below (s:List UInt8) (k:Nat) (st:St):St :=
 if k<40 then match opener s with
  | none=>leaf s k false st
  | some (o,r)=>leaf (grow (39-k) (push o (shut k st)) r).2 (grow (39-k) (push o (shut k st)) r).1.opn.length true (grow (39-k) (push o (shut k st)) r).1
 else leaf s k false st
def text (s:List UInt8) (st:St):St :=
 match st.fence with
 | some i=>if (take st.opn s).1=st.opn.length then fenced (take st.opn s).2 i st else below (take st.opn s).2 (take st.opn s).1 st
 | none=>below (take st.opn s).2 (take st.opn s).1 st
def start:St:=⟨[⟨none,0,0,[],[],0,0⟩],[],none,none,⟨0,0,0,[]⟩,0,[]⟩
def lines:List (List UInt8)→Nat→St→St
 | [],_,st=>st
 | s::r,i,st=>lines r (i+1) (text s { st with line:=i })
def run (ls:List (List UInt8)):St:=lines ls 0 start
def places (ls:List (List UInt8)) (n:Nat):List Pl:=match (run ls).places.getLast? with
 | none=>(run ls).places
 | some p=>if p.closed=true then (run ls).places else yQ n false (run ls).places
inductive Tree where
 | mk (kind level:Nat) (text info:List UInt8) (line:Nat) (kids:List Tree)
def qY:List Nd→Nat→Nat→List Tree
 | [],_,_=>[]
 | x::r,o,i=>if x.par=some i then .mk x.kind x.level x.text x.info x.line (qY r (o+1) o)::qY r (o+1) i else qY r (o+1) i
def tree (ls:List (List UInt8)):Tree:=match (run ls).ns with
 | []=>.mk 0 0 [] [] 0 []
 | x::r=>.mk x.kind x.level x.text x.info x.line (qY r 1 0)
end Go.Proofs.YtddkjkockbcamaaGreatDoor.Bk
namespace Go.Proofs.YtddkjkockbcamaaGreatDoor
open Go.RowKit
def uc (c:UInt8) (l:List UInt8) (at_:Int):Nat:=if at_<0 then 0 else Fn.run c (l.drop at_.toNat)
theorem jH (c:UInt8) (l:List UInt8) (k:Nat):uc c l (k:Int)=Fn.run c (l.drop k):=by unfold uc;rw [if_neg (by omega)];rfl
theorem kY {S:List UInt8}{i j:Nat}{v u:Int}(h:i≤j) (hj:j≤S.length) (hv:v=(i:Int)) (hu:u=(j:Int)) (w:World) :
  (Instr.slice 9 (.string (bs S)) (some (.int .i64 v)) (some (.int .i64 u)) none).run Tryz.prog w=.ok (.string (bs (mid S i j))) w:=by
 subst hv hu;exact uH h hj w
def fH:Option (List UInt8×Nat)→Value
 | none=>.tuple #[.string ⟨#[]⟩,.int .i64 0,.bool false]
 | some (t,e)=>.tuple #[.string (bs t),.int .i64 (e:Int),.bool true]
theorem kH {l:List UInt8}{at_:Int}(h:at_<0∨(l.length:Int)≤at_∨(∃ h:at_.toNat<l.length,l[at_.toNat]≠96)∨(0<at_∧∃ h:at_.toNat-1<l.length,l[at_.toNat-1]=96)):Cd.opens l at_=false:=by
 unfold Cd.opens;refine decide_eq_false ?_;rintro ⟨h1,h2,h3,h4⟩;rcases h with h | h | ⟨hl,h⟩ | ⟨h0,hl,h⟩
 ·omega
 ·omega
 ·exact h (by simpa [List.getD,List.getElem?_eq_getElem hl] using h3)
 ·rcases h4 with h4 | h4
  ·omega
  ·exact h4 (by simpa [List.getD,List.getElem?_eq_getElem hl] using h)
theorem Jk {l:List UInt8}{k:Nat}(h:k<l.length) (h1:l[k]=96) (h2:k=0∨∃ h:k-1<l.length,l[k-1]≠96):Cd.opens l (k:Int)=true:=by
 unfold Cd.opens;refine decide_eq_true ⟨by omega,h,by simpa [List.getD,List.getElem?_eq_getElem h] using h1,?_⟩;rcases h2 with h2 | ⟨hl,h2⟩
 ·exact .inl h2
 ·exact .inr (by simpa [List.getD,List.getElem?_eq_getElem hl] using h2)
theorem BI (c:Nat):(c:Int)-(c:Int)%4+4=(Cl.step c 9:Nat)∧(c:Int)+4-(c:Int)%4=(Cl.step c 9:Nat):=by
 rw [Cl.OZ];have:c%4<4:=Nat.mod_lt _ (by omega);omega
theorem yU (c:Nat) (b:UInt8) (w:World) (hc:c≤1000000000000000) :
  Calls Tryz.prog 182 #[.int .i64 c,.int .u8 (b.toNat:Int)] w fun e w'=>e=.returned (.int .i64 (Cl.step c b:Nat))∧w=w':=by
 by_cases h:b=9
 ·subst h
  have ht:=(BI c).1;go_enter Tryz.func182,Tryz.ntmps182;go_wp2;go_ret;refine ⟨?_,rfl⟩;rw [← ht];rfl
 ·have ht:=eo (n:=9) (by omega) h
  have hs:=Cl.PO c h;clear h;go_enter Tryz.func182,Tryz.ntmps182;go_wp2;go_ret;refine ⟨?_,rfl⟩;rw [hs];rfl
theorem A6 {p:Nat×Nat}{c k:Nat}(h:Hid ((c,k)=p)):Ending.returned (.tuple #[.int .i64 (c:Int),.int .i64 (k:Int)])=.returned (.tuple #[.int .i64 (p.1:Nat),.int .i64 (p.2:Nat)]):=by
 rw [← h.out]
theorem wO (l:List UInt8) (n:Int) (w:World) (hl:l.length≤140737488355328) :
  Calls Tryz.prog 151 #[.string (bs l),.int .i64 n] w fun e w'=>e=.returned (.tuple #[.int .i64 ((Cl.lead n l 0).1:Nat),.int .i64 ((Cl.lead n l 0).2:Nat)])∧w=w':=by
 have hsz:=au l;go_enter Tryz.func151,Tryz.ntmps151;go_wp2_with fail
 go_loop [6,7] (fun v u=>∃ c k:Nat,k≤l.length∧c≤4*k∧v=.int .i64 c∧u=.int .i64 k∧Hid (Cl.fin n l k c=Cl.lead n l 0)) (fun v u=>l.length-(intOf u).toNat)
 case atStart=>exact ⟨0,0,by omega,by omega,rfl,rfl,Lib.hid (Cl.MT n l)⟩
 case round =>
  obtain ⟨c,k,hk,hck,rfl,rfl,hf⟩:=hrel
  by_cases hc:(c:Int)<n
  ·rcases Nat.lt_or_eq_of_le hk with hlt | rfl
   ·have hx:=bC hlt w
    have hst:=Cl.qJ c l[k];rcases yp l[k] with ⟨h1,h3⟩ | ⟨h1,h2,h3⟩ | ⟨h1,h2,h3⟩
    ·have hf2:=Lib.hid ((Cl.DO hlt hc h3).trans hf.out)
     go_wp2_with (go_at_call 182;refine (yU c l[k] _ (by omega)).mono ?_;rintro e w' ⟨rfl,rfl⟩)
     go_round
     case rel=>exact ⟨Cl.step c l[k],k+1,by omega,by omega,rfl,by go_num,hf2⟩
     case measure=>simp [intOf];omega
    ·have hf2:=Lib.hid ((Cl.DO hlt hc h3).trans hf.out)
     go_wp2_with (go_at_call 182;refine (yU c l[k] _ (by omega)).mono ?_;rintro e w' ⟨rfl,rfl⟩)
     go_round
     case rel=>exact ⟨Cl.step c l[k],k+1,by omega,by omega,rfl,by go_num,hf2⟩
     case measure=>simp [intOf];omega
    ·have aL:=Lib.hid ((Cl.No hlt h3).symm.trans hf.out)
     go_wp2;go_returns;exact ⟨A6 aL,rfl⟩
   ·have aL:=Lib.hid ((Cl.Sh (by omega)).symm.trans hf.out)
    go_wp2;go_returns;exact ⟨A6 aL,rfl⟩
  ·have aL:=Lib.hid ((Cl.Pk l hc).symm.trans hf.out)
   go_wp2;go_returns;exact ⟨A6 aL,rfl⟩
theorem lu (l:List UInt8) (w:World) (hl:l.length≤140737488355328) :
  Calls Tryz.prog 181 #[.string (bs l)] w fun e w'=>e=.returned (.tuple #[.int .i64 ((Cl.lead Cl.inf l 0).1:Nat),.int .i64 ((Cl.lead Cl.inf l 0).2:Nat)])∧w=w':=by
 go_enter Tryz.func181,Tryz.ntmps181;go_wp2_with (go_at_call 151;refine (wO l Cl.inf _ hl).mono ?_;rintro e w' ⟨rfl,rfl⟩);go_ret2;exact ⟨rfl,rfl⟩
theorem P0 {p q:Nat}:Ending.returned (.bool (((p:Nat):Int)==(q:Int)))=.returned (.bool (decide (p=q))):=by
 congr 2;rw [Bool.eq_iff_iff];simp;omega
theorem sD (l:List UInt8) (w:World) (hl:l.length≤140737488355328) :
  Calls Tryz.prog 122 #[.string (bs l)] w fun e w'=>e=.returned (.bool (decide ((Cl.lead Cl.inf l 0).2=l.length)))∧w=w':=by
 have hsz:=au l;go_enter Tryz.func122,Tryz.ntmps122;go_wp2_with (go_at_call 151;refine (wO l Cl.inf _ hl).mono ?_;rintro e w' ⟨rfl,rfl⟩);go_ret;exact ⟨P0,rfl⟩
end Go.Proofs.YtddkjkockbcamaaGreatDoor
namespace Go.Proofs.YtddkjkockbcamaaGreatDoor
def Bk.Yl (ns:List Bk.Nd) (j:Nat):Bk.Tree:=match ns[j]? with
 | some x=>.mk x.kind x.level x.text x.info x.line (Bk.qY (ns.drop (j+1)) (j+1) j)
 | none=>.mk 0 0 [] [] 0 []
end Go.Proofs.YtddkjkockbcamaaGreatDoor
namespace Go.Proofs.YtddkjkockbcamaaGreatDoor.Ln
def oD (b:UInt8):Bool:=b==10||b==13
def dQ:List UInt8→Nat
 | []=>0
 | 13::10::_=>2
 | _::_=>1
def run:List UInt8→Nat
 | []=>0
 | b::r=>if oD b then 0 else run r+1
theorem gq (l:List UInt8):run l≤l.length:=by
 induction l with
 | nil=>simp [run]
 | cons b r ih=>simp only [run];split<;>simp<;>omega
theorem JJ {x:UInt8}(r:List UInt8) (h:x≠10):dQ (13::x::r)=1:=by
 unfold dQ;split
 ·simp_all
 ·rename_i heq;injection heq with _ h2;injection h2 with h3 _;exact absurd h3 h
 ·rfl
theorem DG {x:UInt8}(r:List UInt8) (h:x≠13):dQ (x::r)=1:=by
 unfold dQ;split
 ·simp_all
 ·rename_i heq;injection heq with h3 _;exact absurd h3 h
 ·rfl
theorem yK (l:List UInt8):dQ l≤l.length:=by
 unfold dQ;split<;>simp
theorem Gy {l:List UInt8}(h:0<l.length):1≤dQ l:=by
 match l,h with
 | [b],_=>unfold dQ;split<;>simp_all
 | b::c::r,_=>unfold dQ;split<;>simp_all
def nV (l:List UInt8) (at_:Nat):Nat:=at_+run (l.drop at_)
def xH (l:List UInt8) (at_:Nat):Nat:=nV l at_+dQ (l.drop (nV l at_))
theorem N0 {l:List UInt8}{k:Nat}(h:k≤l.length):nV l k≤l.length:=by
 have:=gq (l.drop k);rw [List.length_drop] at this;unfold nV;omega
theorem Qf (l:List UInt8) (k:Nat):k≤nV l k:=by unfold nV;omega
theorem Oe {l:List UInt8}{k:Nat}(h:k≤l.length):xH l k≤l.length:=by
 have h1:=N0 h;have:=yK (l.drop (nV l k));rw [List.length_drop] at this;unfold xH;omega
theorem Ve (l:List UInt8) (k:Nat):nV l k≤xH l k:=by unfold xH;omega
theorem AA {l:List UInt8}{k:Nat}(h:k<l.length):k<xH l k:=by
 have h0:=Qf l k
 by_cases h1:nV l k<l.length
 ·have:=Gy (l:=l.drop (nV l k)) (by rw [List.length_drop];omega)
  unfold xH;omega
 ·have h2:=Ve l k;omega
theorem iT {b:UInt8}(r:List UInt8) (h:oD b=true):run (b::r)=0:=by simp [run,h]
theorem MR {b:UInt8}(r:List UInt8) (h:oD b=false):run (b::r)=run r+1:=by simp [run,h]
theorem VP (l:List UInt8):nV l l.length=l.length:=by simp [nV,run]
theorem SA {l:List UInt8}{k:Nat}(hk:k<l.length) (h:oD l[k]=true):nV l k=k:=by
 unfold nV;rw [List.drop_eq_getElem_cons hk,iT _ h];omega
theorem O4 {l:List UInt8}{k:Nat}(hk:k<l.length) (h:oD l[k]=false):nV l (k+1)=nV l k:=by
 unfold nV;rw [List.drop_eq_getElem_cons hk,MR _ h];omega
def lines (l:List UInt8) (k:Nat):List (Nat×Nat×Nat) :=
 if _h:k<l.length then (k,nV l k,xH l k)::lines l (xH l k) else []
termination_by l.length-k
decreasing_by have:=AA _h;omega
theorem yB {l:List UInt8}{k:Nat}(h:¬ k<l.length):lines l k=[]:=by rw [lines,dif_neg h]
theorem E4 {l:List UInt8}{k:Nat}(h:k<l.length):lines l k=(k,nV l k,xH l k)::lines l (xH l k):=by rw [lines,dif_pos h]
theorem j0 (l:List UInt8) (k:Nat):(lines l k).length≤l.length-k:=by
 rw [lines]
 split
 ·rename_i h
  have h1:=AA h;have h2:=Oe (l:=l) (k:=k) (by omega);have:=j0 l (xH l k);simp only [List.length_cons];omega
 ·simp
termination_by l.length-k
decreasing_by have:=AA (by assumption);omega
def texts (l:List UInt8) (k:Nat):List (List UInt8):=(lines l k).map fun x=>mid l x.1 x.2.1
theorem LI {l:List UInt8}{k:Nat}(h:¬ k<l.length):texts l k=[]:=by simp [texts,yB h]
theorem FF {l:List UInt8}{k:Nat}(h:k<l.length):texts l k=mid l k (nV l k)::texts l (xH l k):=by simp [texts,E4 h]
theorem Ko (l:List UInt8) (k:Nat):(texts l k).length≤l.length-k:=by simpa [texts] using j0 l k
def join (ls:List (List UInt8)) (e:List UInt8):List UInt8:=ls.flatMap fun s=>s++e
theorem Jf {ls:List (List UInt8)}{k:Nat}(e:List UInt8) (h:k<ls.length):join (ls.take (k+1)) e=join (ls.take k) e++ls[k]++e:=by
 rw [List.take_succ_eq_append_getElem h];simp only [join,List.flatMap_append,List.flatMap_cons,List.flatMap_nil,List.append_nil,List.append_assoc]
theorem Br (ls:List (List UInt8)) (k:Nat) (e:List UInt8):(join (ls.take k) e).length≤(join ls e).length:=by
 have h:=List.take_append_drop k ls;have:join ls e=join (ls.take k) e++join (ls.drop k) e:=by rw [join,join,join,← List.flatMap_append,h]
 rw [this];simp
end Go.Proofs.YtddkjkockbcamaaGreatDoor.Ln
namespace Go.Proofs.YtddkjkockbcamaaGreatDoor
open Go.RowKit
theorem run_mk {P:Program}{T E:TypeId}{size bytes:Nat}(hE:EI P T E size bytes) {z:Value}(hz:(P.info? E).map (fun i=>i.zero)=some (some z)) (n:Nat) (hn:n≤1000000000) (hb:bytes≤1000) (w:World) :
  (Instr.makeSlice T (.int .i64 (n:Int)) (.int .i64 (n:Int))).run P w=.ok (.slice (some ⟨w.heap.size,0,none⟩) n n) (w.alloc (.cells (madeCells z.cells (n*size)) E)):=by
 obtain ⟨i,z',hi,hz',hs1,hs2,LW⟩:=hE.info;have hzz:i.zero=some z:=by rw [hi] at hz;simpa using hz
 have hm:bytes*n≤1000*1000000000:=Nat.mul_le_mul hb hn;have hm':(i.bytes:Int)*(n:Int)≤281474976710656:=by
  rw [hs2,← Int.natCast_mul];omega
 have:=run_make (P:=P) w T E i z hE.ht hi hzz .i64 .i64 (n:Int) (n:Int) (by omega) (Int.le_refl _) hm' (by omega);rw [Int.toNat_natCast,hs1] at this;exact this
theorem cW (w:World) (B size n:Nat) (E:TypeId) (z:Array Value) (hB:B≤w.heap.size) (hn:n≤1000000000):(w.alloc (.cells (madeCells z (n*size)) E)).ownsRow B E size (.slice (some ⟨w.heap.size,0,none⟩) n n) n (madeCells z (n*size)).toList :=
 World.ownsRow_lit w _ n hB (by unfold maxLen;omega) (size_madeCells _ _)
end Go.Proofs.YtddkjkockbcamaaGreatDoor
namespace Go.Proofs.YtddkjkockbcamaaGreatDoor.Pb
open Go.Proofs.YtddkjkockbcamaaGreatDoor.Cl (strip)
open Go.Proofs.YtddkjkockbcamaaGreatDoor.Fn (cl rs emp trim)
open Go.Proofs.YtddkjkockbcamaaGreatDoor.Bk (Tree Pl)
structure Cn where
 kind:Nat
 line:Nat
 kids:List Tree
 sign:UInt8
 col:Nat
 lst:Option (UInt8×Nat×List Tree)
structure Of where
 kind:Nat
 line:Nat
 lines:List (List UInt8)
 op:Fn.Op
 ended:Bool
structure Rd where
 row:List Cn
 leaf:Of
 places:List Pl
def pY:Option (UInt8×Nat×List Tree)→List Tree
 | none=>[]
 | some (_,ln,is)=>[.mk 2 0 [] [] ln is]
def Cn.all (c:Cn):List Tree:=c.kids++pY c.lst
def Cn.tree (c:Cn):Tree:=.mk c.kind 0 [] [] c.line c.all
def Cn.cL (c:Cn):UInt8:=match c.lst with
 | none=>0
 | some (s,_,_)=>s
def Cn.add (t:Tree) (c:Cn):Cn:={ c with kids:=c.all++[t],lst:=none }
def Cn.addItem (d c:Cn):Cn:=match c.lst with
 | none=>{ c with kids:=c.all,lst:=some (d.sign,d.line,[d.tree]) }
 | some (s,ln,is)=>if s=d.sign then { c with lst:=some (s,ln,is++[d.tree]) } else { c with kids:=c.all,lst:=some (d.sign,d.line,[d.tree]) }
def give (d c:Cn):Cn:=if d.kind=3 then Cn.addItem d c else Cn.add d.tree c
def qu:Fn.Op:=⟨0,0,0,[]⟩
def bH:Of:=⟨0,0,[],qu,false⟩
def fZ:List (List UInt8)→List UInt8
 | []=>[]
 | [x]=>x
 | x::y::r=>x++10::fZ (y::r)
def Of.place (l:Of):Pl:=⟨l.line,l.op,l.line+1,l.line+1+l.lines.length,l.ended⟩
def ql (l:Of):Tree:=.mk 4 0 (fZ l.lines) [] l.line []
def kF (l:Of):Tree:=.mk 7 0 (Ln.join l.lines [10]) l.op.info l.line []
def cI (t:Tree) (r:Rd):Rd:=match r.row with
 | []=>r
 | c::o=>{ r with row:=c.add t::o }
def aO (r:Rd):Rd :=
 if r.leaf.kind=4 then { cI (ql r.leaf) r with leaf:=bH }
 else if r.leaf.kind=7 then { cI (kF r.leaf) r with leaf:=bH,places:=if r.row.length=1 then r.places++[r.leaf.place] else r.places }
 else { r with leaf:=bH }
def pz:Nat→List Cn→List Cn
 | 0,r=>r
 | _+1,[]=>[]
 | _+1,[c]=>[c]
 | n+1,d::c::o=>pz n (give d c::o)
def aR (k:Nat) (r:Rd):Rd:={ aO r with row:=pz ((aO r).row.length-k) (aO r).row }
def fresh (ln:Nat):Option (UInt8×Nat)→Cn
 | none=>⟨1,ln,[],0,0,none⟩
 | some (c,n)=>⟨3,ln,[],c,n,none⟩
def push (c:Cn) (r:Rd):Rd:={ r with row:=c::r.row }
def begin (ln:Nat):Nat→Nat→Rd→List UInt8→Rd×Nat×List UInt8
 | 0,k,r,s=>(r,k,s)
 | m+1,k,r,s=>match Bk.opener s with
  | none=>(r,k,s)
  | some (o,q)=>begin ln m (k+1) (push (fresh ln o) (aR k r)) q
def Cn.take (c:Cn) (s:List UInt8):Option (List UInt8) :=
 if c.kind=1 then Lf.quote s
 else if c.kind=3 then (if emp s=true then some s else if cl s<c.col then none else some (strip c.col s))
 else some s
def take:List Cn→List UInt8→Nat×List UInt8
 | [],s=>(0,s)
 | c::r,s=>match c.take s with
  | none=>(0,s)
  | some q=>((take r q).1+1,(take r q).2)
def jj (ln k:Nat) (s:List UInt8) (r:Rd):Rd :=
 if emp s=true then aR k r
 else match Lf.fS s with
  | some (n,t)=>cI (.mk 5 n t [] ln []) (aR k r)
  | none =>
   if Lf.tD s=true then cI (.mk 6 0 [] [] ln []) (aR k r)
   else match Fn.cu s with
    | some f=>{ aR k r with leaf:=⟨7,ln,[],f,false⟩ }
    | none =>
     if r.leaf.kind=4 then { r with leaf:={ r.leaf with lines:=r.leaf.lines++[trim s] } }
     else { aR k r with leaf:=⟨4,ln,[trim s],qu,false⟩ }
def gL (s:List UInt8) (r:Rd):Rd :=
 if Fn.ends r.leaf.op.c r.leaf.op.n s=true then aO { r with leaf:={ r.leaf with ended:=true } }
 else { r with leaf:={ r.leaf with lines:=r.leaf.lines++[strip r.leaf.op.ind s] } }
def iB (ln:Nat) (s:List UInt8) (r:Rd):Rd :=
 if r.leaf.kind=7∧(take r.row.reverse s).1=r.row.length then gL (take r.row.reverse s).2 r
 else jj ln (begin ln (41-(take r.row.reverse s).1) (take r.row.reverse s).1 r (take r.row.reverse s).2).2.1 (begin ln (41-(take r.row.reverse s).1) (take r.row.reverse s).1 r (take r.row.reverse s).2).2.2
  (begin ln (41-(take r.row.reverse s).1) (take r.row.reverse s).1 r (take r.row.reverse s).2).1
def start:Rd:=⟨[⟨0,0,[],0,0,none⟩],bH,[]⟩
def lines:List (List UInt8)→Nat→Rd→Rd
 | [],_,r=>r
 | s::t,i,r=>lines t (i+1) (iB i s r)
def read (ls:List (List UInt8)):Rd:=aR 1 (lines ls 0 start)
def tree (ls:List (List UInt8)):Tree:=match (read ls).row with
 | []=>.mk 0 0 [] [] 0 []
 | c::_=>c.tree
end Go.Proofs.YtddkjkockbcamaaGreatDoor.Pb
