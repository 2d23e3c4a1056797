/- Mem RnKinds ClMath ClFlat FnMath CdMath Two Blk HeapMap Byt LfMath BkMath AppRow FnRun CdRef ClFns BkTreeM LnMath MakeS PbMath PbSim PbSim2 PbSim3 -/
import Derived.Test.YtddkjkockbcamaaGreatDoorRows
import Derived.WalkKit
import Derived.WalkSpells
import Derived.WalkLawsBesides
import Derived.Deep.Draws
import Derived.Lib.Hide
import Derived.Lib.AppendStr
import Derived.Handy
import Derived.Maps.AppendAt
import Derived.Laws.ResultCell
import Derived.Laws.OwnMore
set_option maxHeartbeats 16000000
set_option maxRecDepth 100000
namespace Go.Proofs.YtddkjkockbcamaaGreatDoor
open Go.RowKit
def bv (b:UInt8):Value:=.int .u8 (b.toNat:Int)
def ai (l:List UInt8):List Value:=l.map bv
def bs (l:List UInt8):ByteArray:=⟨l.toArray⟩
theorem au (l:List UInt8):(bs l).size=l.length:=by simp [bs,ByteArray.size]
theorem bH (l:List UInt8):(bs l).toList=l:=ByteArray.toList_mk l
theorem XF {a b:List UInt8}(h:a=b):((bs a).toList==(bs b).toList)=true:=by subst h;simp
theorem W8 {a b:List UInt8}(h:a≠b):((bs a).toList==(bs b).toList)=false:=by rw [bH,bH];simpa using h
theorem Og (a b:List UInt8):bs a++bs b=bs (a++b):=by
 apply ByteArray.ext;simp [bs]
def Row (w:World) (B size:Nat) (A:Option Addr) (n:Nat) (xs:List Value):Prop :=
 xs.length=n*size∧(0<n→∃ b o,A=some ⟨b,o,none⟩∧b<B∧∀ j u,xs[j]? = some u→w.cell? ⟨b,o+j,none⟩=some u)
section
variable {w w':World}{B B' size n:Nat}{A:Option Addr}{xs:List Value}
theorem Row.nil:Row w B size A 0 []:=⟨by simp,fun h=>absurd h (by omega)⟩
theorem Row.keep (h:Row w B size A n xs) (hk:∀ p:Addr,p.block<B→w'.cell? p=w.cell? p):Row w' B size A n xs :=
 ⟨h.1,fun hn=>by
  obtain ⟨b,o,e,hb,hc⟩:=h.2 hn;exact ⟨b,o,e,hb,fun j u hu=>(hk _ hb).trans (hc j u hu)⟩⟩
theorem Row.more (h:Row w B size A n xs) (hB:B≤B'):Row w B' size A n xs :=
 ⟨h.1,fun hn=>by
  obtain ⟨b,o,e,hb,hc⟩:=h.2 hn;exact ⟨b,o,e,by omega,hc⟩⟩
theorem Row.below (h:Row w B size A n xs) (hb:Below B w w'):Row w' B size A n xs:=h.keep fun _ hp=>hb.cell hp
theorem Row.alloc (h:Row w B size A n xs) (hB:B≤w.heap.size) (o:Obj):Row (w.alloc o) B size A n xs:=h.keep fun p hp=>World.cell?_alloc_lt w o p (by omega)
theorem Row.own {base:Nat}{e:TypeId}{c:Nat}(h:w.ownsRow base e size (.slice A n c) n xs):Row w w.heap.size size A n xs:=by
 refine ⟨h.1,fun hn=>?_⟩;rcases h.2 with ⟨_,h0⟩ | ⟨g,cap,cur,hv,_,hg,_,_,_,Xh⟩
 ·omega
 ·have hA:A=some ⟨g,0,none⟩:=by injection hv
  refine ⟨g,0,hA,(Array.getElem?_eq_some_iff.1 hg).1,fun j u hu=>?_⟩;have hc:=h.cells (g:=g) (by rw [hA];rfl) j u hu;have:(⟨g,0,none⟩:Addr).add j=⟨g,0+j,none⟩:=by unfold Addr.add;split<;>simp_all
  rwa [this] at hc
theorem Row.at1 (h:Row w B 1 A n xs) {k:Nat}(hk:k<n):∃ b o,A=some ⟨b,o,none⟩∧b<B∧∀ j,(hj:j<n)→w.cell? ⟨b,o+j,none⟩=some (xs[j]'(by have:=h.1;omega)):=by
 obtain ⟨b,o,e,hb,hc⟩:=h.2 (by omega);refine ⟨b,o,e,hb,fun j hj=>hc j _ ?_⟩;exact List.getElem?_eq_getElem _
end
theorem ak {w:World}{base:Nat}{e:TypeId}{size n:Nat}{v:Value}{xs:List Value}(h:w.ownsRow base e size v n xs):∃ A c,v=.slice A n c∧n≤c:=by
 rcases h.2 with ⟨rfl,rfl⟩ | ⟨g,cap,cur,rfl,_,_,hn,_⟩
 ·exact ⟨none,0,rfl,by omega⟩
 ·exact ⟨_,cap,rfl,hn⟩
structure EI (P:Program) (T E:TypeId) (size bytes:Nat):Prop where
 ht:P.underlying T=some (.slice E)
 info:∃ i z,P.info? E=some i∧i.zero=some z∧i.size=size∧i.bytes=bytes∧z.cells.size=size
 pos:0<size
theorem EI.mk' {P:Program}{T E:TypeId}{z:Value}{size bytes:Nat}(ht:P.underlying T=some (.slice E))
  (h:(P.info? E).map (fun i=>(i.zero,i.size,i.bytes))=some (some z,size,bytes)) (hz:z.cells.size=size) (hp:0<size):EI P T E size bytes:=by
 obtain ⟨i,h1,h2,h3,h4⟩:=info_parts h;exact ⟨ht,⟨i,z,h1,h2,h3,h4,hz⟩,hp⟩
theorem bX {w w1:World}{base:Nat}{e:TypeId}{size n:Nat}{v:Value}{xs:List Value}(h:w.ownsRow base e size v n xs) (hb:Below w.heap.size w w1):w1.ownsRow base e size v n xs:=by
 refine ⟨h.1,?_⟩;rcases h.2 with hn | ⟨g,cap,cur,rfl,hbg,Hg,rest⟩
 ·exact .inl hn
 ·exact .inr ⟨g,cap,cur,rfl,hbg,(hb.block g (Array.getElem?_eq_some_iff.1 Hg).1).trans Hg,rest⟩
theorem ja {w w1 w2:World}{base:Nat}{e:TypeId}{size n:Nat}{v:Value}{xs:List Value}{a:World}(h:Below base a w) (hown:w1.ownsRow base e size v n xs)
  (h1:Below base w w1) (hg:w1.grownBy w2 v.ownBlock) (hbase:base≤w1.heap.size):Below base a w2 :=
 (h.trans h1).grown hg hbase fun k hk=>(hown.lt k hk).1
theorem Cm (w0:World) (cs:Array Value) (E:TypeId) {g:Nat}(hg:g=w0.heap.size):∀ j u,cs.toList[j]? = some u→(w0.alloc (.cells cs E)).cell? ((⟨g,0,none⟩:Addr).add j)=some u:=by
 intro j u hu;have:(⟨g,0,none⟩:Addr).add j=⟨g,j,none⟩:=by unfold Addr.add;split<;>simp_all
 rw [this,World.cell?_alloc_at _ _ _ _ hg];simpa using hu
theorem jL {w0 w':World}{o:Obj}{row:Option Nat}(h:(w0.alloc o).grownBy w' row):w0.grownBy w' row :=
 ⟨h.os,h.tape,h.output,by have:=h.size;simp at this;omega,fun i hi hne=>(h.block i (by simp;omega) hne).trans (Below.heap_alloc w0 o i hi)⟩
theorem HX {w0 w':World}{row:Option Nat}(h:w0.grownBy w' row) {p:Addr}(hp:p.block<w0.heap.size) (hne:row≠some p.block):w'.cell? p=w0.cell? p :=
 World.cell?_of_block (h.block p.block hp (fun e=>hne e.symm))
theorem YC {w:World}{base:Nat}{e:TypeId}{size n:Nat}{v:Value}{xs:List Value}(h:w.ownsRow base e size v n xs) {k:Nat}(hk:w.heap.size≤k):v.ownBlock≠some k:=fun he=>by
 have:=(h.lt k he).2;omega
theorem gT {P:Program}{w0:World}{ops:Array Oper}{rest:List Oper}{o:Oper}{a:Act}{Q:Exit→Act→World→Prop}(hgd:o.guard=none) (s x:Operand) {T:TypeId}
  (ho:o.op=.call { callee:=.builtin .append,args:=#[s,x],argTypes:=#[T,T] })
  {E:TypeId}{size bytes:Nat}(hE:EI P T E size bytes) {base n:Nat}{v:Value}{xs:List Value}(hs:a.eval s=v) (hown:w0.ownsRow base E size v n xs)
  {g k c:Nat}{cs:Array Value}(hx:a.eval x=.slice (some ⟨g,0,none⟩) k c) (hg:g=w0.heap.size) (hcs:cs.size=k*size) (h1:∀ u∈cs.toList,u.oneCell'=true)
  (h63:n+k≤1000000000000) (hbytes:bytes≤100) (hbase:base≤w0.heap.size)
  (h:∀ v' w',w'.ownsRow base E size v' (n+k) (xs++cs.toList)→Hid (w0.grownBy w' v.ownBlock)→Below base w0 w'→wpList P ops Q rest (a.put o.dst v') w') :
  wpList P ops Q (o::rest) a (w0.alloc (.cells cs E)):=by
 obtain ⟨i,z,hi,hz,hs1,hs2,OE⟩:=hE.info;refine wpList_append_own _ hgd s x T ho base E i z size bytes hE.ht hi hz hs1 hs2 OE hE.pos v n xs hs (hown.alloc _) ⟨g,0,none⟩ k c cs.toList hx (by simpa using hcs) (Cm w0 cs E hg) h1
  (by unfold maxLen;omega) (by have:=Nat.mul_le_mul h63 hbytes;omega) (by simp;omega) ?_
 intro v' w' hw hgr _;exact h v' w' hw (jL hgr) (ja (Below.refl _ _) (hown.alloc _) ((Below.refl _ _).alloc hbase _) hgr (by simp;omega))
def wv (size:Nat) (A:Option Addr) (c lo:Nat):Option Addr:=if c=lo then A else A.map (·.add (lo*size))
theorem Lg {P:Program}{T:TypeId}(hT:P.underlying T=some (.slice (P.elem T))) (size:Nat) (hsz:∀ w,(sizeOf (P.elem T)).run P w=.ok size w) (A:Option Addr) (n c lo hi:Nat) (h1:lo≤hi) (h2:hi≤c) (w:World) :
  (Instr.slice T (.slice A n c) (some (.int .i64 (lo:Int))) (some (.int .i64 (hi:Int))) none).run P w=.ok (.slice (wv size A c lo) (hi-lo) (c-lo)) w:=by
 rw [run_slice_lh w T A n c hT .i64 .i64 lo hi (by omega) (by omega) (by omega),hsz];simp [sliced,wv,Result.andThen]
theorem Row.cut {w:World}{B size n:Nat}{A:Option Addr}{xs:List Value}(h:Row w B size A n xs) {c lo hi:Nat}(h1:lo≤hi) (h2:hi≤n) (h3:n≤c) :
  Row w B size (wv size A c lo) (hi-lo) ((xs.drop (lo*size)).take ((hi-lo)*size)):=by
 refine ⟨?_,fun hn=>?_⟩
 ·have hl:=h.1
  have h4:=Nat.mul_le_mul_right size h2;rw [List.length_take,List.length_drop,hl,Nat.sub_mul];omega
 ·obtain ⟨b,o,rfl,hb,hc⟩:=h.2 (by omega)
  refine ⟨b,o+lo*size,?_,hb,fun j u hu=>?_⟩
  ·unfold wv
   rw [if_neg (by omega)];simp only [Option.map_some,Addr.add]
   split
   ·rename_i h0;rw [h0];rfl
   ·rfl
  ·have:=hc (lo*size+j) u (by
    rw [List.getElem?_take] at hu
    split at hu
    ·rwa [List.getElem?_drop] at hu
    ·cases hu)
   rwa [← Nat.add_assoc] at this
def mid {α:Type}(l:List α) (lo hi:Nat):List α:=(l.drop lo).take (hi-lo)
theorem ep {α:Type}{l:List α}{lo hi:Nat}(h:hi≤l.length):(mid l lo hi).length=hi-lo:=by
 unfold mid;rw [List.length_take,List.length_drop];omega
theorem Row.sub {w:World}{B n:Nat}{A:Option Addr}{l:List UInt8}(h:Row w B 1 A n (ai l)) {c lo hi:Nat}(h1:lo≤hi) (h2:hi≤n) (h3:n≤c) :
  Row w B 1 (wv 1 A c lo) (hi-lo) (ai (mid l lo hi)):=by
 have:=h.cut h1 h2 h3;simpa [ai,mid,List.map_take,List.map_drop] using this
theorem me {P:Program}{w:World}{B n c:Nat}{A:Option Addr}{l:List UInt8}(h:Row w B 1 A n (ai l)) (src e dst:TypeId) (hs:P.underlying src=some (.slice e)) (he:P.underlying e=some (.int .u8)) (hd:P.underlying dst=some .string) :
  (convert src dst (.slice A n c)).run P w=.ok (.string (bs l)) w:=by
 have hn:l.length=n:=by have:=h.1;simpa [ai] using this
 rcases A with _ | ad
 ·have h0:n=0:=by
   rcases Nat.eq_zero_or_pos n with h0 | h0
   ·exact h0
   ·obtain ⟨b,o,e,_⟩:=h.2 h0;cases e
  subst h0;have:l=[]:=List.eq_nil_of_length_eq_zero hn;subst this;rw [run_convert_bytes_nil w src e hs he 0 c dst hd]
  rfl
 ·have Rm:(strOfNums (l.map fun b=>(b.toNat:Int)))=⟨l.toArray⟩:=by
   have hid:((fun n:Int=>UInt8.ofNat n.toNat)∘fun b:UInt8=>(b.toNat:Int))=id:=by funext b;simp
   simp only [strOfNums,List.map_map,hid,List.map_id_fun,id]
  rcases Nat.eq_zero_or_pos n with h0 | h0
  ·subst h0
   have:l=[]:=List.eq_nil_of_length_eq_zero hn;subst this;obtain ⟨b,o,sp⟩:=ad;rw [run_convert_bytes_string w src dst e _ 0 c hs he hd,run_bytesToString w _ 0 c [] (by simp [loadCells,loadCellsFrom])]
   rfl
  ·obtain ⟨b,o,e,_,hc⟩:=h.2 h0
   cases e;rw [run_convert_bytes_arg w src _ hs he b o n c (l.map fun b=>(b.toNat:Int)) (by simpa using hn) (fun i hi=>by
    have hil:i<l.length:=by omega
    have:=hc i _ (List.getElem?_eq_getElem (by simpa [ai] using hil));rw [this];simp [ai,bv,List.getElem?_eq_getElem hil]) dst hd,Rm]
   rfl
def aY (l:List (List UInt8)):List Value:=l.map fun s=>.string (bs s)
theorem vB (l:List UInt8):Lib.strCells (bs l)=ai l:=by simp [Lib.strCells,ai,bv,bs]
theorem eD {P:Program}{w:World}{ops:Array Oper}{rest:List Oper}{o:Oper}{a:Act}{Q:Exit→Act→World→Prop}(hgd:o.guard=none) (s x:Operand) {T U:TypeId}
  (ho:o.op=.call { callee:=.builtin .append,args:=#[s,x],argTypes:=#[T,U] })
  {E:TypeId}(hE:EI P T E 1 1) (hEz:(P.info? E).map (fun i=>i.zero)=some (some (.int .u8 0))) (hU:P.underlying U=some .string) {base n:Nat}{v:Value}{l:List UInt8}(hs:a.eval s=v) (hown:w.ownsRow base E 1 v n (ai l))
  {t:List UInt8}(hx:a.eval x=.string (bs t)) (h63:n+t.length≤1000000000000) (hbase:base≤w.heap.size)
  (h:∀ v' w',w'.ownsRow base E 1 v' (n+t.length) (ai (l++t))→Hid (w.grownBy w' v.ownBlock)→Below base w w'→wpList P ops Q rest (a.put o.dst v') w') :
  wpList P ops Q (o::rest) a w:=by
 obtain ⟨i,z,hi,hz,hs1,hs2,OE⟩:=hE.info;have hzz:i.zero=some (.int .u8 0):=by rw [hi] at hEz;simpa using hEz
 have hsz:=au t;refine Lib.wpList_append_own_string w hgd s x T U ho base E i hE.ht hU hi hzz hs1 hs2 v n (ai l) hs hown (bs t) hx (by rw [hsz];unfold maxLen;omega) (by rw [hsz];omega) hbase ?_;intro v' w' hw hgr _;rw [hsz,vB] at hw;exact h v' w' (by simpa [ai] using hw) hgr (ja (Below.refl _ _) hown (Below.refl _ _) hgr hbase)
theorem iT {w:World}{b0 b1:Nat}{e:TypeId}{size n:Nat}{v:Value}{xs:List Value}(h:w.ownsRow b1 e size v n xs) (hb:b0≤b1):w.ownsRow b0 e size v n xs:=by
 refine ⟨h.1,?_⟩;rcases h.2 with hn | ⟨g,cap,cur,rfl,hbg,rest⟩
 ·exact .inl hn
 ·exact .inr ⟨g,cap,cur,rfl,Nat.le_trans hb hbg,rest⟩
theorem below_drewN {B:Nat}{a w:World}(h:Below B a w) (n:Nat):Below B a (w.drewN n):=⟨h.os,h.tape,h.output,h.size,h.block⟩
theorem ag {w w1 w2:World}(h:Below w.heap.size w w1) (k:Below w1.heap.size w1 w2):Below w.heap.size w w2:=h.trans (k.mono h.size)
theorem Row.ext {w w':World}{size n:Nat}{A:Option Addr}{xs:List Value}(h:Row w w.heap.size size A n xs) (hb:Below w.heap.size w w'):Row w' w'.heap.size size A n xs:=(h.below hb).more hb.size
theorem Row.fresh (w:World) (E:TypeId) (C:Array Value) (m:Nat×Nat) {n:Nat}{xs:List Value}(hn:C.size=n) (hx:C.toList=xs) :
  Row (w.alloc (.cells C E m)) (w.alloc (.cells C E m)).heap.size 1 (some ⟨w.heap.size,0,none⟩) n xs:=by
 subst hn hx;refine ⟨by simp,fun _=>⟨w.heap.size,0,rfl,by simp,fun j u hu=>?_⟩⟩;rw [World.cell?_alloc_mark];simpa using hu
theorem aa (w:World) (o:Obj):Below w.heap.size w (w.alloc o):=(Below.refl _ _).alloc (Nat.le_refl _) _
theorem Row.dr {w:World}{size n:Nat}{A:Option Addr}{xs:List Value}(h:Row w w.heap.size size A n xs):Row w.drew w.drew.heap.size size A n xs:=h
theorem bC (w:World):Below w.heap.size w w.drew:=(Below.refl _ _).drew
def Jl (r a b:Int):Bool:=decide (a≤r∧r≤b)
def dP (r:Int):Bool:=decide ((9≤r∧r≤13)∨r=32∨r=160∨r=8195∨r=12288)
def gI (r:Int):Bool:=decide ((33≤r∧r≤47)∨(58≤r∧r≤64)∨(91≤r∧r≤96)∨(123≤r∧r≤126))
def gP (r:Int):Bool:=decide (((33≤r∧r≤47)∨(58≤r∧r≤64)∨(91≤r∧r≤96)∨(123≤r∧r≤126))∨r=161∨r=167∨(8208≤r∧r≤8231)∨r=12289∨r=12290)
def x7 (r:Int):Int:=if 65≤r∧r≤90 then r+32 else r
theorem sN {a b:Bool}(h:a=b):Ending.returned (.bool a)=.returned (.bool b):=by rw [h]
theorem oJ (r a b:Int) (w:World) :
  Calls Tryz.prog 230 #[.int .i32 r,.int .i32 a,.int .i32 b] w fun e w'=>e=.returned (.bool (Jl r a b))∧w=w':=by
 go_enter Tryz.func230,Tryz.ntmps230;go_wp2
 all_goals go_ret
 all_goals (refine ⟨sN ?_,rfl⟩;(try simp only [beq_iff_eq,beq_eq_false_iff_ne,ne_eq] at *);rw [Bool.eq_iff_iff];simp [Jl];try omega)
theorem fA (r:Int) (w:World) :
  Calls Tryz.prog 212 #[.int .i32 r] w fun e w'=>e=.returned (.bool (dP r))∧w=w':=by
 go_enter Tryz.func212,Tryz.ntmps212;go_wp2
 all_goals go_ret
 all_goals (refine ⟨sN ?_,rfl⟩;(try simp only [beq_iff_eq,beq_eq_false_iff_ne,ne_eq] at *);rw [Bool.eq_iff_iff];simp [dP];try omega)
theorem lY (r:Int) (w:World) :
  Calls Tryz.prog 241 #[.int .i32 r] w fun e w'=>e=.returned (.bool (gP r))∧w=w':=by
 go_enter Tryz.func241,Tryz.ntmps241;go_wp2_with (first | (go_at_call 230;refine (oJ _ _ _ _).mono ?_;rintro e w' ⟨rfl,rfl⟩))
 all_goals go_ret
 all_goals (refine ⟨sN ?_,rfl⟩;(try simp only [beq_iff_eq,beq_eq_false_iff_ne,ne_eq] at *);rw [Bool.eq_iff_iff];simp_all [gP,Jl];try omega)
theorem KR {a b:Int}(h:a=b):Ending.returned (.int .i32 a)=.returned (.int .i32 b):=by rw [h]
theorem MQ (r:Int) (w:World) (h0:-2147483648≤r) (h1:r≤2147483647) :
  Calls Tryz.prog 213 #[.int .i32 r] w fun e w'=>e=.returned (.int .i32 (x7 r))∧w=w':=by
 go_enter Tryz.func213,Tryz.ntmps213
 by_cases h:65≤r∧r≤90
 ·obtain ⟨h2,h3⟩:=h
  have hb:Jl r 65 90=true:=by simp [Jl];omega
  go_wp2_with (go_at_call 230;refine (oJ _ _ _ _).mono ?_;rintro e w' ⟨rfl,rfl⟩);go_ret;exact ⟨KR (by unfold x7;rw [if_pos (by omega)];omega),rfl⟩
 ·have hb:Jl r 65 90=false:=by simp [Jl];omega
  go_wp2_with (go_at_call 230;refine (oJ _ _ _ _).mono ?_;rintro e w' ⟨rfl,rfl⟩);go_ret;exact ⟨KR (by unfold x7;rw [if_neg h]),rfl⟩
end Go.Proofs.YtddkjkockbcamaaGreatDoor
namespace Go.Proofs.YtddkjkockbcamaaGreatDoor.Cl
def cW (b:UInt8):Bool:=b==32||b==9
def step (c:Nat) (b:UInt8):Nat:=if b=9 then c-c%4+4 else c+1
theorem RP (c:Nat):step c 9=c-c%4+4:=by simp [step]
theorem Qu {b:UInt8}(c:Nat) (h:b≠9):step c b=c+1:=by simp [step,h]
theorem r8 (c:Nat) (b:UInt8):c<step c b∧step c b≤c+4:=by
 unfold step;split
 ·have:c%4<4:=Nat.mod_lt _ (by omega)
  omega
 ·omega
def lead (n:Int):List UInt8→Nat→Nat×Nat
 | [],c=>(c,0)
 | b::r,c=>if (c:Int)<n∧cW b=true then ((lead n r (step c b)).1,(lead n r (step c b)).2+1) else (c,0)
theorem WN {n:Int}{b:UInt8}{c:Nat}(r:List UInt8) (h:(c:Int)<n) (hg:cW b=true):lead n (b::r) c=((lead n r (step c b)).1,(lead n r (step c b)).2+1):=by
 rw [lead,if_pos ⟨h,hg⟩]
theorem BT {n:Int}{c:Nat}(l:List UInt8) (h:¬ (c:Int)<n):lead n l c=(c,0):=by
 cases l with
 | nil=>rfl
 | cons b r=>rw [lead,if_neg (fun k=>h k.1)]
theorem NK {n:Int}{b:UInt8}{c:Nat}(r:List UInt8) (h:cW b=false):lead n (b::r) c=(c,0):=by
 rw [lead,if_neg (fun k=>by rw [h] at k;exact absurd k.2 (by simp))]
theorem sF (n:Int) (l:List UInt8) (c:Nat):(lead n l c).2≤l.length∧c+(lead n l c).2≤(lead n l c).1∧(lead n l c).1≤c+4*(lead n l c).2:=by
 induction l generalizing c with
 | nil=>simp [lead]
 | cons b r ih =>
  rw [lead];have h1:=ih (step c b);have h2:=r8 c b
  split
  ·simp only [List.length_cons];omega
  ·simp
def fin (n:Int) (l:List UInt8) (k c:Nat):Nat×Nat:=((lead n (l.drop k) c).1,k+(lead n (l.drop k) c).2)
theorem Qk (n:Int) (l:List UInt8):fin n l 0 0=lead n l 0:=by simp [fin]
theorem GS {n:Int}{l:List UInt8}{k c:Nat}(hk:k<l.length) (hc:(c:Int)<n) (hg:cW l[k]=true):fin n l (k+1) (step c l[k])=fin n l k c:=by
 unfold fin;rw [List.drop_eq_getElem_cons hk,WN _ hc hg];simp only [Prod.mk.injEq,true_and];omega
theorem Qo {n:Int}{k c:Nat}(l:List UInt8) (h:¬ (c:Int)<n):fin n l k c=(c,k):=by
 unfold fin;rw [BT _ h];rfl
theorem Ti {n:Int}{l:List UInt8}{k c:Nat}(hk:k<l.length) (hg:cW l[k]=false):fin n l k c=(c,k):=by
 unfold fin;rw [List.drop_eq_getElem_cons hk,NK _ hg];rfl
theorem Vf {n:Int}{l:List UInt8}{k c:Nat}(hk:¬ k<l.length):fin n l k c=(c,k):=by
 unfold fin;rw [List.drop_eq_nil_of_le (by omega)];rfl
def strip (n:Int) (l:List UInt8):List UInt8:=List.replicate ((lead n l 0).1-n.toNat) 32++l.drop (lead n l 0).2
theorem xS {n:Int}(l:List UInt8) (h:n≤0):lead n l 0=(0,0):=BT l (by omega)
theorem MF {n:Int}(l:List UInt8) (h:n≤0):strip n l=l:=by
 unfold strip;rw [xS l h];simp
theorem BN (n:Int) (l:List UInt8) (c:Nat) (h:(c:Int)≤n+3):((lead n l c).1:Int)≤n+3:=by
 induction l generalizing c with
 | nil=>simpa [lead] using h
 | cons b r ih =>
  rw [lead]
  split
  ·rename_i hc
   have h2:=r8 c b;exact ih (step c b) (by have:=hc.1;omega)
  ·exact h
theorem gb (n:Int) (l:List UInt8):(strip n l).length≤l.length+3:=by
 by_cases h:n≤0
 ·rw [MF l h];omega
 ·have h1:=BN n l 0 (by omega)
  unfold strip;simp only [List.length_append,List.length_replicate,List.length_drop];omega
def width:List UInt8→Nat→Nat
 | [],c=>c
 | b::r,c=>width r (step c b)
def inf:Int:=9223372036854775807
def small (l:List UInt8) (c:Nat):Prop:=c+4*l.length<9223372036854775807
def fl:List UInt8→Nat→List UInt8
 | [],_=>[]
 | b::r,c=>if b=9 then List.replicate (4-c%4) 32++fl r (c+(4-c%4)) else b::fl r (c+1)
def abd:List UInt8→Nat
 | []=>0
 | b::r=>if cW b then abd r+1 else 0
def rest (l:List UInt8):List UInt8:=l.drop (abd l)
end Go.Proofs.YtddkjkockbcamaaGreatDoor.Cl
namespace Go.Proofs.YtddkjkockbcamaaGreatDoor.Fn
open Go.Proofs.YtddkjkockbcamaaGreatDoor.Cl
def run (c:UInt8):List UInt8→Nat
 | []=>0
 | b::r=>if b=c then run c r+1 else 0
theorem DE {c b:UInt8}(r:List UInt8) (h:b=c):run c (b::r)=run c r+1:=by simp [run,h]
theorem sO {c b:UInt8}(r:List UInt8) (h:b≠c):run c (b::r)=0:=by simp [run,h]
theorem gE (c:UInt8) (l:List UInt8):run c l≤l.length:=by
 induction l with
 | nil=>simp [run]
 | cons b r ih=>simp only [run,List.length_cons];split<;>omega
theorem jS {c:UInt8}{l:List UInt8}{k:Nat}(hk:k<l.length) (h:l[k]=c):run c (l.drop k)=run c (l.drop (k+1))+1:=by
 rw [List.drop_eq_getElem_cons hk,DE _ h]
theorem qM {c:UInt8}{l:List UInt8}{k:Nat}(hk:k<l.length) (h:l[k]≠c):run c (l.drop k)=0:=by
 rw [List.drop_eq_getElem_cons hk,sO _ h]
theorem jF {c:UInt8}{l:List UInt8}{k:Nat}(hk:¬ k<l.length):run c (l.drop k)=0:=by
 rw [List.drop_eq_nil_of_le (by omega)];rfl
def lg:List UInt8→Nat
 | []=>0
 | b::r=>max (run 96 (b::r)) (lg r)
def lgs:List (List UInt8)→Nat
 | []=>0
 | s::r=>max (lg s) (lgs r)
def long (ls:List (List UInt8)):Nat:=max (lgs ls+1) 3
def front:List UInt8→List UInt8
 | []=>[]
 | b::r=>if cW b then front r else b::r
theorem uS {b:UInt8}(r:List UInt8) (h:cW b=true):front (b::r)=front r:=by simp [front,h]
theorem qL {b:UInt8}(r:List UInt8) (h:cW b=false):front (b::r)=b::r:=by simp [front,h]
theorem Md (l:List UInt8):(front l).length≤l.length:=by
 induction l with
 | nil=>simp [front]
 | cons b r ih=>simp only [front];split<;>simp only [List.length_cons]<;>omega
def back:List UInt8→List UInt8
 | []=>[]
 | b::r=>if back r=[]∧cW b=true then [] else b::back r
theorem yP {b:UInt8}{r:List UInt8}(h:back r=[]) (hb:cW b=true):back (b::r)=[]:=by simp [back,h,hb]
theorem p4 {b:UInt8}(r:List UInt8) (hb:cW b=false):back (b::r)=b::back r:=by simp [back,hb]
theorem tX {b:UInt8}{r:List UInt8}(h:back r≠[]):back (b::r)=b::back r:=by simp [back,h]
theorem yY (l:List UInt8):(back l).length≤l.length:=by
 induction l with
 | nil=>simp [back]
 | cons b r ih=>simp only [back];split<;>simp only [List.length_cons,List.length_nil]<;>omega
theorem Ac (l:List UInt8) {x:UInt8}(h:cW x=true):back (l++[x])=back l:=by
 induction l with
 | nil=>rw [List.nil_append,yP rfl h];rfl
 | cons b r ih=>rw [List.cons_append,back,back,ih]
theorem xV (l:List UInt8) {x:UInt8}(h:cW x=false):back (l++[x])=l++[x]:=by
 induction l with
 | nil=>rw [List.nil_append,p4 _ h];rfl
 | cons b r ih=>rw [List.cons_append,tX (by rw [ih];simp),ih]
def trim (l:List UInt8):List UInt8:=back (front l)
theorem iR (l:List UInt8):(trim l).length≤l.length:=Nat.le_trans (yY _) (Md _)
theorem I4 (l:List UInt8):front (back l)=back (front l):=by
 induction l with
 | nil=>rfl
 | cons b r ih =>
  cases hb:cW b with
  | true =>
   rw [uS _ hb,← ih]
   by_cases hr:back r=[]
   ·rw [yP hr hb,hr]
   ·rw [tX hr,uS _ hb]
  | false=>rw [p4 _ hb,qL _ hb,qL _ hb,p4 _ hb]
structure Op where
 c:UInt8
 n:Nat
 ind:Nat
 info:List UInt8
def cl (l:List UInt8):Nat:=(lead inf l 0).1
def rs (l:List UInt8):List UInt8:=l.drop (lead inf l 0).2
def info (r:List UInt8) (c:UInt8):List UInt8:=trim (r.drop (run c r))
def cu (l:List UInt8):Option Op :=
 match rs l with
 | []=>none
 | c::r=>if cl l≤3∧(c=96∨c=126)∧3≤run c (c::r)∧¬ (c=96∧96∈info (c::r) c) then some ⟨c,run c (c::r),cl l,info (c::r) c⟩ else none
theorem xZ {l:List UInt8}(h:rs l=[]):cu l=none:=by unfold cu;rw [h]
theorem Is {l:List UInt8}{c:UInt8}{r:List UInt8}(h:rs l=c::r) (h1:cl l≤3) (h2:c=96∨c=126) (h3:3≤run c (c::r)) (h4:¬ (c=96∧96∈info (c::r) c)) :
  cu l=some ⟨c,run c (c::r),cl l,info (c::r) c⟩:=by unfold cu;rw [h];simp only;rw [if_pos ⟨h1,h2,h3,h4⟩]
theorem uC {l:List UInt8}{c:UInt8}{r:List UInt8}(h:rs l=c::r) (h1:¬ (cl l≤3∧(c=96∨c=126)∧3≤run c (c::r)∧¬ (c=96∧96∈info (c::r) c))) :
  cu l=none:=by unfold cu;rw [h];simp only;rw [if_neg h1]
def emp (l:List UInt8):Bool:=decide ((lead inf l 0).2=l.length)
def ends (c:UInt8) (n:Int) (l:List UInt8):Bool:=decide (1≤n∧cl l≤3∧n≤(run c (rs l):Int))&&emp ((rs l).drop (run c (rs l)))
theorem DD {c:UInt8}{n:Int}{l:List UInt8}(h:¬ (1≤n∧cl l≤3∧n≤(run c (rs l):Int))):ends c n l=false:=by unfold ends;rw [decide_eq_false h];rfl
theorem Wj {c:UInt8}{n:Int}{l:List UInt8}(h:1≤n∧cl l≤3∧n≤(run c (rs l):Int)):ends c n l=emp ((rs l).drop (run c (rs l))):=by unfold ends;rw [decide_eq_true h];rfl
end Go.Proofs.YtddkjkockbcamaaGreatDoor.Fn
namespace Go.Proofs.YtddkjkockbcamaaGreatDoor.Cd
def nl (b:UInt8):UInt8:=if b=10 then 32 else b
def flat (l:List UInt8):List UInt8:=l.map nl
theorem lW (l:List UInt8):(flat l).length=l.length:=by simp [flat]
def blanks (l:List UInt8):Bool:=l.all (·==32)
def clean (l:List UInt8):List UInt8 :=
 if blanks (flat l)=false∧(flat l).getD 0 0=32∧(flat l).getD ((flat l).length-1) 0=32 then mid (flat l) 1 ((flat l).length-1) else flat l
theorem Ci (l:List UInt8):(clean l).length≤l.length:=by
 have h:=lW l;unfold clean
 split
 ·unfold Go.Proofs.YtddkjkockbcamaaGreatDoor.mid;rw [List.length_take,List.length_drop];omega
 ·omega
theorem qg {l:List UInt8}{k:Nat}(h:k<l.length):flat (l.take (k+1))=flat (l.take k)++[nl l[k]]:=by
 rw [List.take_succ_eq_append_getElem h];unfold flat;rw [List.map_append];rfl
def findF:Nat→List UInt8→Nat→Nat→Option Nat
 | 0,_,_,_=>none
 | f+1,l,n,i=>if i<l.length then (if Fn.run 96 (l.drop i)=n then some i else findF f l n (i+max (Fn.run 96 (l.drop i)) 1)) else none
def find (l:List UInt8) (n i:Nat):Option Nat:=findF (l.length+1-i) l n i
theorem zI:∀ (f g:Nat) (l:List UInt8) (n i:Nat),l.length<f+i→l.length<g+i→findF f l n i=findF g l n i
 | 0,0,_,_,_,_,_=>rfl
 | 0,g+1,l,n,i,h,_=>by unfold findF;rw [if_neg (by omega)]
 | f+1,0,l,n,i,_,h=>by unfold findF;rw [if_neg (by omega)]
 | f+1,g+1,l,n,i,hf,hg=>by
  unfold findF;rw [zI f g l n _ (by omega) (by omega)]
theorem Qq {l:List UInt8}{n i:Nat}(h:l.length≤i):find l n i=none:=by
 unfold find;cases hf:l.length+1-i with
 | zero=>rfl
 | succ f=>unfold findF;rw [if_neg (by omega)]
theorem Ch {l:List UInt8}{n i:Nat}(h:i<l.length):find l n i=if Fn.run 96 (l.drop i)=n then some i else find l n (i+max (Fn.run 96 (l.drop i)) 1):=by
 unfold find;obtain ⟨f,hf⟩:∃ f,l.length+1-i=f+1:=⟨l.length-i,by omega⟩
 rw [hf]
 conv=>lhs;unfold findF
 rw [if_pos h,zI f _ l n _ (by omega) (Nat.lt_of_lt_of_le (show l.length<(l.length+1-(i+max (Fn.run 96 (l.drop i)) 1))+(i+max (Fn.run 96 (l.drop i)) 1) by omega) (Nat.le_refl _))]
theorem SL {l:List UInt8}{n i:Nat}(h:i<l.length) (hr:Fn.run 96 (l.drop i)=n):find l n i=some i:=by rw [Ch h,if_pos hr]
theorem Ui {l:List UInt8}{n i:Nat}(h:i<l.length) (hr:Fn.run 96 (l.drop i)≠n):find l n i=find l n (i+max (Fn.run 96 (l.drop i)) 1):=by rw [Ch h,if_neg hr]
theorem aaa {c:UInt8}:∀ {l:List UInt8}{j:Nat},j<Fn.run c l→l.getD j 0=c
 | [],j,h=>by simp [Fn.run] at h
 | b::r,j,h=>by
  by_cases hb:b=c
  ·rw [Fn.DE r hb] at h
   cases j with
   | zero=>simpa using hb
   | succ j=>have:=aaa (c:=c) (l:=r) (j:=j) (by omega);simpa using this
  ·rw [Fn.sO r hb] at h;omega
theorem rF {c:UInt8}:∀ {l:List UInt8},Fn.run c l<l.length→l.getD (Fn.run c l) 0≠c
 | [],h=>by simp at h
 | b::r,h=>by
  by_cases hb:b=c
  ·rw [Fn.DE r hb] at h ⊢
   have:=rF (c:=c) (l:=r) (by simp at h;omega);simpa using this
  ·rw [Fn.sO r hb];simpa using hb
theorem nQ (c:UInt8) (l:List UInt8) (i:Nat):Fn.run c (l.drop (i+Fn.run c (l.drop i)))=0:=by
 by_cases h:i+Fn.run c (l.drop i)<l.length
 ·refine Fn.qM h ?_
  have hb:=rF (c:=c) (l:=l.drop i) (by rw [List.length_drop];omega);simpa [List.getD,List.getElem?_eq_getElem h] using hb
 ·exact Fn.jF h
theorem KT {c:UInt8}{l:List UInt8}(hn:Fn.run c l=0) (h:0<l.length):l.getD 0 0≠c:=by
 have:=rF (c:=c) (l:=l) (by omega);rwa [hn] at this
theorem find_spec {l:List UInt8}{n:Nat}(hn:1≤n):∀ (f i p:Nat),findF f l n i=some p →
  i≤p∧p<l.length∧Fn.run 96 (l.drop p)=n∧(p=i∨l.getD (p-1) 0≠96)∧∀ j,i≤j→j<p→(j=i∨l.getD (j-1) 0≠96)→Fn.run 96 (l.drop j)≠n
 | 0,_,_,h=>by simp [findF] at h
 | f+1,i,p,h=>by
  unfold findF at h
  by_cases hi:i<l.length
  ·rw [if_pos hi] at h
   by_cases hr:Fn.run 96 (l.drop i)=n
   ·rw [if_pos hr] at h
    injection h with h;subst h;exact ⟨Nat.le_refl _,hi,hr,.inl rfl,fun j h1 h2=>by omega⟩
   ·rw [if_neg hr] at h
    obtain ⟨k,hk⟩:∃ k,k=Fn.run 96 (l.drop i):=⟨_,rfl⟩
    rw [← hk] at h hr;obtain ⟨g1,g2,g3,g4,g5⟩:=find_spec hn f _ p h;refine ⟨by omega,g2,g3,?_,?_⟩
    ·rcases g4 with g4 | g4
     ·right
      rcases Nat.eq_zero_or_pos k with h0 | h0
      ·have:p-1=i:=by omega
       rw [this];have hb:=KT (c:=96) (l:=l.drop i) (by omega) (by rw [List.length_drop];omega);simpa [List.getD] using hb
      ·exfalso
       have hb:=nQ 96 l i;rw [← hk,show i+k=p by omega] at hb;omega
     ·exact .inr g4
    ·intro j h1 h2 h3
     by_cases hji:j=i
     ·subst hji;rw [← hk];exact hr
     ·by_cases hjn:j<i+max k 1
      ·exfalso
       rcases h3 with h3 | h3
       ·exact hji h3
       ·have hin:=aaa (c:=96) (l:=l.drop i) (j:=j-1-i) (by omega)
        rw [List.getD_eq_getElem?_getD,List.getElem?_drop,show i+(j-1-i)=j-1 by omega] at hin;exact h3 (by rw [List.getD_eq_getElem?_getD];exact hin)
      ·refine g5 j (by omega) h2 ?_
       rcases h3 with h3 | h3
       ·exact absurd h3 hji
       ·exact .inr h3
  ·rw [if_neg hi] at h;simp at h
def opens (l:List UInt8) (at_:Int):Bool:=decide (0≤at_∧at_.toNat<l.length∧l.getD at_.toNat 0=96∧(at_.toNat=0∨l.getD (at_.toNat-1) 0≠96))
def span (l:List UInt8) (at_:Int):Option (List UInt8×Nat) :=
 if opens l at_=true then (find l (Fn.run 96 (l.drop at_.toNat)) (at_.toNat+Fn.run 96 (l.drop at_.toNat))).map fun i=>(clean (mid l (at_.toNat+Fn.run 96 (l.drop at_.toNat)) i),i+Fn.run 96 (l.drop at_.toNat)) else none
theorem jW {l:List UInt8}{at_:Int}(h:opens l at_=false):span l at_=none:=by unfold span;rw [if_neg (by rw [h];decide)]
theorem KZ {l:List UInt8}{at_:Int}{n:Nat}(h:opens l at_=true) (hn:Fn.run 96 (l.drop at_.toNat)=n) :
  span l at_=(find l n (at_.toNat+n)).map fun i=>(clean (mid l (at_.toNat+n) i),i+n):=by unfold span;rw [if_pos h,hn]
theorem Bc {l:List UInt8}{at_:Int}(h:opens l at_=true):1≤Fn.run 96 (l.drop at_.toNat):=by
 unfold opens at h;have h:=of_decide_eq_true h;have hk:=h.2.1;have:l[at_.toNat]=96:=by simpa [List.getD,List.getElem?_eq_getElem hk] using h.2.2.1
 rw [Fn.jS hk this];omega
theorem tP {l:List UInt8}{at_:Int}{t:List UInt8}{e:Nat}(h:span l at_=some (t,e)) :
  1≤Fn.run 96 (l.drop at_.toNat)∧e≤l.length∧at_.toNat+2*Fn.run 96 (l.drop at_.toNat)+1≤e∧Fn.run 96 (l.drop (e-Fn.run 96 (l.drop at_.toNat)))=Fn.run 96 (l.drop at_.toNat) ∧
   l.getD (e-Fn.run 96 (l.drop at_.toNat)-1) 0≠96∧(∀ i,at_.toNat+Fn.run 96 (l.drop at_.toNat)≤i→i<e-Fn.run 96 (l.drop at_.toNat)→l.getD (i-1) 0≠96→Fn.run 96 (l.drop i)≠Fn.run 96 (l.drop at_.toNat))∧t.length≤l.length:=by
 cases ho:opens l at_ with
 | false=>rw [jW ho] at h;simp at h
 | true =>
  have hn:=Bc ho;obtain ⟨n,hne⟩:∃ n,n=Fn.run 96 (l.drop at_.toNat):=⟨_,rfl⟩
  rw [KZ ho hne.symm] at h;rw [← hne] at hn ⊢;obtain ⟨p,hp,Ym⟩:=Option.map_eq_some_iff.1 h;injection Ym with e1 e2;subst e1 e2;obtain ⟨g1,g2,g3,g4,g5⟩:=find_spec hn _ _ _ hp;have hb:=nQ 96 l at_.toNat;rw [← hne] at hb;have ac7:p≠at_.toNat+n:=by intro hc;rw [hc,hb] at g3;omega
  have g4':l.getD (p-1) 0≠96:=by
   rcases g4 with g4 | g4
   ·exact absurd g4 ac7
   ·exact g4
  have hle:=Fn.gE 96 (l.drop p);rw [List.length_drop,g3] at hle;rw [show p+n-n=p by omega];refine ⟨hn,by omega,by omega,g3,g4',fun i h1 h2 h3=>g5 i h1 h2 (.inr h3),?_⟩;have:=Ci (mid l (at_.toNat+n) p);rw [ep (by omega)] at this;omega
end Go.Proofs.YtddkjkockbcamaaGreatDoor.Cd
namespace Go.Proofs.YtddkjkockbcamaaGreatDoor
open Go.RowKit
def At (B:Nat) (v v':Value):Prop:=∀ g,v'.ownBlock=some g→v.ownBlock=some g∨B≤g
theorem bE {P:Program}{w0:World}{ops:Array Oper}{rest:List Oper}{o:Oper}{a:Act}{Q:Exit→Act→World→Prop}(hgd:o.guard=none) (s x:Operand) {T:TypeId}
  (ho:o.op=.call { callee:=.builtin .append,args:=#[s,x],argTypes:=#[T,T] })
  {E:TypeId}{size bytes:Nat}(hE:EI P T E size bytes) {base n:Nat}{v:Value}{xs:List Value}(hs:a.eval s=v) (hown:w0.ownsRow base E size v n xs)
  {g k c:Nat}{cs:Array Value}(hx:a.eval x=.slice (some ⟨g,0,none⟩) k c) (hg:g=w0.heap.size) (hcs:cs.size=k*size) (h1:∀ u∈cs.toList,u.oneCell'=true)
  (h63:n+k≤1000000000000) (hbytes:bytes≤100) (hbase:base≤w0.heap.size)
  (h:∀ v' w',w'.ownsRow base E size v' (n+k) (xs++cs.toList)→Hid (w0.grownBy w' v.ownBlock)→Below base w0 w'→Hid (At w0.heap.size v v')→wpList P ops Q rest (a.put o.dst v') w') :
  wpList P ops Q (o::rest) a (w0.alloc (.cells cs E)):=by
 obtain ⟨i,z,hi,hz,hs1,hs2,OE⟩:=hE.info;refine wpList_append_own_at _ hgd s x T ho base E i z size bytes hE.ht hi hz hs1 hs2 OE hE.pos v n xs hs (hown.alloc _) ⟨g,0,none⟩ k c cs.toList hx (by simpa using hcs) (Cm w0 cs E hg) h1
  (by unfold maxLen;omega) (by have:=Nat.mul_le_mul h63 hbytes;omega) (by simp;omega) ?_
 intro v' w' hw hgr _ hat;refine h v' w' hw (jL hgr) (ja (Below.refl _ _) (hown.alloc _) ((Below.refl _ _).alloc hbase _) hgr (by simp;omega)) ?_;intro q hq;rcases hat with e | e
 ·rw [e] at hq;exact .inl hq
 ·rw [e] at hq;simp at hq;exact .inr (by omega)
theorem blk {w w1:World}{o:Obj}(hb:Below (w.alloc o).heap.size (w.alloc o) w1):w1.heap[w.heap.size]? = some o :=
 (hb.block _ (by simp)).trans (heap_alloc_new w o)
theorem ah {w1:World}{g:Nat}{cs:Array Value}{t:TypeId}{fr:Nat×Nat}(h:w1.heap[g]? = some (.cells cs t fr)) (j:Nat):w1.cell? ⟨g,j,none⟩=cs[j]? := by
 simp [World.cell?,h]
theorem bf {w1:World}{g:Nat}{cs:Array Value}{t:TypeId}(h:w1.heap[g]? = some (.cells cs t (0,0))) (j:Nat):w1.frozen? ⟨g,j,none⟩=false:=by
 simp [World.frozen?,h]
theorem dX {w w1:World}{a b c d:Value}{t:TypeId}(hb:Below (w.alloc (.cells #[a,b,c,d] t)).heap.size (w.alloc (.cells #[a,b,c,d] t)) w1) :
  w1.cell? ⟨w.heap.size,0,none⟩=some a∧w1.cell? ⟨w.heap.size,1,none⟩=some b∧w1.cell? ⟨w.heap.size,2,none⟩=some c∧w1.cell? ⟨w.heap.size,3,none⟩=some d ∧
  ∀ j,w1.frozen? ⟨w.heap.size,j,none⟩=false:=by
 have h:=blk hb;exact ⟨ah h 0,ah h 1,ah h 2,ah h 3,bf h⟩
theorem fI {w w1:World}{o:Obj}(hb:Below (w.alloc o).heap.size (w.alloc o) w1) (a b c d:Value) :
  Below w.heap.size w ((((w1.setCell ⟨w.heap.size,0,none⟩ a).setCell ⟨w.heap.size,1,none⟩ b).setCell ⟨w.heap.size,2,none⟩ c).setCell ⟨w.heap.size,3,none⟩ d) :=
 (((((aa w o).trans (hb.mono (by simp))).setCell (Nat.le_refl _) _).setCell (Nat.le_refl _) _).setCell (Nat.le_refl _) _).setCell (Nat.le_refl _) _
theorem keep {w w1:World}{g:Nat}{o:Obj}(h:w.heap[g]? = some o) (hb:Below w.heap.size w w1):w1.heap[g]? = some o∧g<w1.heap.size:=by
 have hg:g<w.heap.size:=(Array.getElem?_eq_some_iff.1 h).1;have h1:=hb.block g hg;have hs:=hb.size;exact ⟨h1.trans h,by omega⟩
theorem four {w1:World}{g:Nat}{a b c d:Value}{t:TypeId}{fr:Nat×Nat}(h:w1.heap[g]? = some (.cells #[a,b,c,d] t fr)) :
  w1.cell? ⟨g,0,none⟩=some a∧w1.cell? ⟨g,1,none⟩=some b∧w1.cell? ⟨g,2,none⟩=some c∧w1.cell? ⟨g,3,none⟩=some d :=
 ⟨ah h 0,ah h 1,ah h 2,ah h 3⟩
theorem cG {fn:Func}{p u v:Tmp}{ty:TypeId}(h:fn.results=#[.cell p ty,.tmp u,.tmp v]) (tmps:Array Value) (P:Program) (w:World) :
  (results fn tmps).run P w =
   ((asAddr (tmps.getD p undef)).run P w).andThen fun a w₁=>((loadVar ty a).run P w₁).andThen fun x w₂=>.ok (.tuple #[x,tmps.getD u undef,tmps.getD v undef]) w₂:=by
 simp only [results,h];simp [Sem.run_bind,Result.andThen]
theorem three {w1:World}{g:Nat}{a b c:Value}{t:TypeId}{fr:Nat×Nat}(h:w1.heap[g]? = some (.cells #[a,b,c] t fr)) :
  w1.cell? ⟨g,0,none⟩=some a∧w1.cell? ⟨g,1,none⟩=some b∧w1.cell? ⟨g,2,none⟩=some c :=
 ⟨ah h 0,ah h 1,ah h 2⟩
inductive Part
 | blk (g:Nat) (cs:Array Value) (t:TypeId)
 | row (e:TypeId) (size:Nat) (v:Value) (n:Nat) (xs:List Value)
def Part.holds (w:World) (B:Nat):Part→Prop
 | .blk g cs t=>B≤g∧w.heap[g]? = some (.cells cs t (0,0))
 | .row e size v n xs=>w.ownsRow B e size v n xs
def Part.block:Part→Option Nat
 | .blk g _ _=>some g
 | .row _ _ v _ _=>v.ownBlock
structure Hp {K:Type}(w:World) (B:Nat) (m:K→Option Part):Prop where
 holds:∀ k a,m k=some a→a.holds w B
 apart:∀ k k' a a' g,m k=some a→m k'=some a'→a.block=some g→a'.block=some g→k=k'
theorem Part.lt {w:World}{B:Nat}{a:Part}(h:a.holds w B) {g:Nat}(hg:a.block=some g):B≤g∧g<w.heap.size:=by
 cases a with
 | blk g' cs t =>
  simp only [Part.block,Option.some.injEq] at hg;subst hg;exact ⟨h.1,(Array.getElem?_eq_some_iff.1 h.2).1⟩
 | row e size v n xs=>exact World.ownsRow.lt (show w.ownsRow B e size v n xs from h) g hg
theorem Part.kept {w w':World}{B:Nat}{a:Part}(h:a.holds w B) {row:Option Nat}(hg:w.grownBy w' row) (hne:a.block=none∨a.block≠row):a.holds w' B:=by
 cases a with
 | blk g cs t =>
  refine ⟨h.1,?_⟩;rw [hg.block g (Array.getElem?_eq_some_iff.1 h.2).1 (by rcases hne with h | h;cases h;exact h)];exact h.2
 | row e size v n xs=>exact World.ownsRow.kept (show w.ownsRow B e size v n xs from h) hg hne
theorem MG {w w':World}(hb:Below w.heap.size w w') (row:Option Nat):w.grownBy w' row:=⟨hb.os,hb.tape,hb.output,hb.size,fun k hk _=>hb.block k hk⟩
theorem ay (w:World) (a:Addr) (v:Value):w.grownBy (w.setCell a v) (some a.block):=by
 have hb:Below 0 w (w.setCell a v):=(Below.refl 0 w).setCell (Nat.zero_le _) v;exact ⟨hb.os,hb.tape,hb.output,hb.size,fun k _ hne=>Below.heap_setCell _ _ _ _ (fun e=>hne (by rw [e]))⟩
section
variable {K:Type}{w w':World}{B:Nat}{m:K→Option Part}
theorem Hp.ext (h:Hp w B m) (hb:Below w.heap.size w w'):Hp w' B m:=by
 refine ⟨fun k a ha=>?_,h.apart⟩;have:=h.holds k a ha;cases a with
 | blk g cs t=>exact ⟨this.1,(hb.block g (Array.getElem?_eq_some_iff.1 this.2).1).trans this.2⟩
 | row e size v n xs=>exact bX (show w.ownsRow B e size v n xs from this) hb
theorem Hp.put (h:Hp w B m) {m':K→Option Part}{k:K}{a a':Part}(hk:m k=some a) (hg:w.grownBy w' a.block) (ha:a'.holds w' B)
  (hat:∀ g,a'.block=some g→a.block=some g∨w.heap.size≤g) (hm:∀ j,j≠k→m' j=m j) (hk':m' k=some a'):Hp w' B m':=by
 refine ⟨fun j b hb=>?_,fun i j b c g hi hj xd EV=>?_⟩
 ·by_cases hjk:j=k
  ·subst hjk;rw [hk'] at hb;cases hb;exact ha
  ·rw [hm j hjk] at hb
   refine Part.kept (h.holds j b hb) hg ?_;cases VF:b.block with
   | none=>exact .inl rfl
   | some g=>exact .inr fun he=>hjk (h.apart j k b a g hb hk VF he.symm)
 ·by_cases hik:i=k
  ·by_cases hjk:j=k
   ·rw [hik,hjk]
   ·subst hik
    rw [hk'] at hi;cases hi;rw [hm j hjk] at hj;rcases hat g xd with h1 | h1
    ·exact h.apart i j a c g hk hj h1 EV
    ·exact absurd (Part.lt (h.holds j c hj) EV).2 (by omega)
  ·by_cases hjk:j=k
   ·subst hjk
    rw [hk'] at hj;cases hj;rw [hm i hik] at hi;rcases hat g EV with h1 | h1
    ·exact h.apart i j b a g hi hk xd h1
    ·exact absurd (Part.lt (h.holds i b hi) xd).2 (by omega)
   ·rw [hm i hik] at hi;rw [hm j hjk] at hj
    exact h.apart i j b c g hi hj xd EV
theorem Hp.more (h:Hp w B m) {m':K→Option Part}{k:K}{a':Part}(hk:m k=none) (hb:Below w.heap.size w w') (ha:a'.holds w' B)
  (hat:∀ g,a'.block=some g→w.heap.size≤g) (hm:∀ j,j≠k→m' j=m j) (hk':m' k=some a'):Hp w' B m':=by
 have h':=h.ext hb;refine ⟨fun j b hb=>?_,fun i j b c g hi hj xd EV=>?_⟩
 ·by_cases hjk:j=k
  ·subst hjk;rw [hk'] at hb;cases hb;exact ha
  ·rw [hm j hjk] at hb;exact h'.holds j b hb
 ·by_cases hik:i=k
  ·by_cases hjk:j=k
   ·rw [hik,hjk]
   ·subst hik
    rw [hk'] at hi;cases hi;rw [hm j hjk] at hj;exact absurd (Part.lt (h.holds j c hj) EV).2 (by have:=hat g xd;omega)
  ·by_cases hjk:j=k
   ·subst hjk
    rw [hk'] at hj;cases hj;rw [hm i hik] at hi;exact absurd (Part.lt (h.holds i b hi) xd).2 (by have:=hat g EV;omega)
   ·rw [hm i hik] at hi;rw [hm j hjk] at hj
    exact h.apart i j b c g hi hj xd EV
theorem Hp.store (h:Hp w B m) {m':K→Option Part}{k:K}{g j:Nat}{cs:Array Value}{t:TypeId}{v:Value}(hk:m k=some (.blk g cs t))
  (hm:∀ j,j≠k→m' j=m j) (hk':m' k=some (.blk g (cs.setIfInBounds j v) t)):Hp (w.setCell ⟨g,j,none⟩ v) B m':=by
 have hh:Part.holds w B (.blk g cs t):=h.holds k _ hk;exact h.put (a':=.blk g (cs.setIfInBounds j v) t) hk (ay w ⟨g,j,none⟩ v) ⟨hh.1,heap_setCell_same w g j cs t v hh.2⟩ (fun _ h=>.inl h) hm hk'
theorem Hp.same (h:Hp w B m) {m':K→Option Part}(hm:∀ k,m' k=m k):Hp w B m':=by
 rw [show m'=m from funext hm];exact h
theorem Hp.base (h:Hp w B m) {k:K}{g:Nat}{cs:Array Value}{t:TypeId}(hk:m k=some (.blk g cs t)):B≤g∧g<w.heap.size∧w.heap[g]? = some (.cells cs t (0,0)):=by
 have hh:Part.holds w B (.blk g cs t):=h.holds k _ hk;exact ⟨hh.1,(Array.getElem?_eq_some_iff.1 hh.2).1,hh.2⟩
theorem Hp.own (h:Hp w B m) {k:K}{e:TypeId}{size n:Nat}{v:Value}{xs:List Value}(hk:m k=some (.row e size v n xs)):w.ownsRow B e size v n xs:=h.holds k _ hk
end
def upd {K:Type} [DecidableEq K] (m:K→Option Part) (k:K) (a:Part):K→Option Part:=fun j=>if j=k then some a else m j
section
variable {K:Type} [DecidableEq K] {w w':World}{B:Nat}{m:K→Option Part}
theorem upd_same (m:K→Option Part) (k:K) (a:Part):upd m k a k=some a:=if_pos rfl
theorem aj (m:K→Option Part) {k j:K}(a:Part) (h:j≠k):upd m k a j=m j:=if_neg h
theorem Hp.wG (h:Hp w B m) {k:K}{a:Part}(a':Part) (hk:m k=some a) (hg:w.grownBy w' a.block) (ha:a'.holds w' B)
  (hat:∀ g,a'.block=some g→a.block=some g∨w.heap.size≤g):Hp w' B (upd m k a') :=
 h.put hk hg ha hat (fun _ hj=>aj m a' hj) (upd_same m k a')
theorem Hp.AO (h:Hp w B m) {k:K}(a':Part) (hk:m k=none) (hb:Below w.heap.size w w') (ha:a'.holds w' B)
  (hat:∀ g,a'.block=some g→w.heap.size≤g):Hp w' B (upd m k a') :=
 h.more hk hb ha hat (fun _ hj=>aj m a' hj) (upd_same m k a')
theorem Hp.CM (h:Hp w B m) {k:K}{g:Nat}{cs:Array Value}{t:TypeId}(j:Nat) (v:Value) (hk:m k=some (.blk g cs t)) :
  Hp (w.setCell ⟨g,j,none⟩ v) B (upd m k (.blk g (cs.setIfInBounds j v) t)) :=
 h.store hk (fun _ hj=>aj m _ hj) (upd_same m k _)
end
theorem Row.take {w:World}{B size n k:Nat}{A:Option Addr}{xs:List Value}(h:Row w B size A n xs) (hk:k≤n):Row w B size A k (xs.take (k*size)):=by
 refine ⟨?_,fun hp=>?_⟩
 ·rw [List.length_take,h.1]
  exact Nat.min_eq_left (Nat.mul_le_mul_right size hk)
 ·obtain ⟨b,o,hA,hb,hc⟩:=h.2 (by omega)
  refine ⟨b,o,hA,hb,fun j u hj=>hc j u ?_⟩;rw [List.getElem?_take] at hj
  split at hj
  ·exact hj
  ·cases hj
theorem cell_of {w:World}{g j:Nat}{cs:List Value}{t:TypeId}{fr:Nat×Nat}{v:Value}(h:w.heap[g]? = some (.cells ⟨cs⟩ t fr)) (hj:cs[j]? = some v):w.cell? ⟨g,j,none⟩=some v:=by
 rw [ah h j];simpa using hj
theorem Row.kT (w:World) (E:TypeId) (C:Array Value) {size n:Nat}{xs:List Value}(hn:C.size=n*size) (hx:C.toList=xs) :
  Row (w.alloc (.cells C E)) (w.alloc (.cells C E)).heap.size size (some ⟨w.heap.size,0,none⟩) n xs:=by
 subst hx;refine ⟨by simpa using hn,fun _=>⟨w.heap.size,0,rfl,by simp,fun j u hu=>?_⟩⟩;rw [ah (heap_alloc_new w _)];simpa using hu
theorem xL {P:Program}{w:World}{T ty:TypeId}{E:TypeId}{size bytes:Nat}(hE:EI P T E size bytes) {base n:Nat}{v:Value}{xs:List Value}(hown:w.ownsRow base E size v n xs)
  {B m c:Nat}{A:Option Addr}{news:List Value}(hr:Row w B size A m news) (h1:∀ u∈news,u.oneCell'=true) (h63:n+m≤1000000000000) (hbytes:bytes≤100) (hbase:base≤w.heap.size) :
  ∃ v' w',(Builtin.append_ #[T,T] ty #[v,.slice A m c]).run P w=.ok v' w'∧w'.ownsRow base E size v' (n+m) (xs++news)∧w.grownBy w' v.ownBlock∧At w.heap.size v v':=by
 obtain ⟨i,z,hi,hz,hs1,hs2,OE⟩:=hE.info;rcases Nat.eq_zero_or_pos m with h0 | h0
 ·subst h0
  have hn:news=[]:=List.eq_nil_of_length_eq_zero (by simpa using hr.1);subst hn;refine ⟨v,w,?_,by simpa using hown,World.grownBy.refl w _,fun _ h=>.inl h⟩;rcases A with _ | ad
  ·rcases hown.2 with ⟨rfl,rfl⟩ | ⟨g,cap,cur,rfl,_,_,hnc,_⟩
   ·simp [Builtin.append_,run_underlying hE.ht,sizeOf,typeInfo,hi,Builtin.lenOf,Builtin.firstCells]
   ·simp [Builtin.append_,run_underlying hE.ht,sizeOf,typeInfo,hi,Builtin.lenOf,Builtin.firstCells,hnc,storeCells]
  ·rcases hown.2 with ⟨rfl,rfl⟩ | ⟨g,cap,cur,rfl,_,_,hnc,_⟩
   ·simp [Builtin.append_,run_underlying hE.ht,sizeOf,typeInfo,hi,Builtin.lenOf,Builtin.firstCells,loadCells,loadCellsFrom]
   ·simp [Builtin.append_,run_underlying hE.ht,sizeOf,typeInfo,hi,Builtin.lenOf,Builtin.firstCells,loadCells,loadCellsFrom,hnc,storeCells]
 ·obtain ⟨b,o,rfl,_,hc⟩:=hr.2 h0
  have hcell:∀ j u,news[j]? = some u→w.cell? ((⟨b,o,none⟩:Addr).add j)=some u:=by
   intro j u hu;have:(⟨b,o,none⟩:Addr).add j=⟨b,o+j,none⟩:=by unfold Addr.add;split<;>simp_all
   rw [this];exact hc j u hu
  obtain ⟨v',w',h2,h3,h4,_,h5⟩:=run_append_own_at (P:=P) w base T ty E i z size bytes hE.ht hi hz hs1 hs2 OE hE.pos v n xs hown ⟨b,o,none⟩ m c news hr.1 hcell h1
   (by unfold maxLen;omega) (by have:=Nat.mul_le_mul h63 hbytes;omega) hbase
  refine ⟨v',w',h2,h3,h4,fun q hq=>?_⟩;rcases h5 with e | e
  ·rw [e] at hq;exact .inl hq
  ·rw [e] at hq;simp at hq;exact .inr (by omega)
theorem eG {P:Program}{w:World}{o:Oper}{a:Act}{K:Act→World→Prop}{Q:Exit→Act→World→Prop}(s x:Operand) {T:TypeId}
  (ho:o.op=.call { callee:=.builtin .append,args:=#[s,x],argTypes:=#[T,T] })
  {E:TypeId}{size bytes:Nat}(hE:EI P T E size bytes) {base n:Nat}{v:Value}{xs:List Value}(hs:a.eval s=v) (hown:w.ownsRow base E size v n xs)
  {B m c:Nat}{A:Option Addr}{news:List Value}(hx:a.eval x=.slice A m c) (hr:Row w B size A m news) (h1:∀ u∈news,u.oneCell'=true) (h63:n+m≤1000000000000) (hbytes:bytes≤100) (hbase:base≤w.heap.size)
  (h:∀ v' w',w'.ownsRow base E size v' (n+m) (xs++news)→Hid (w.grownBy w' v.ownBlock)→Below base w w'→Hid (At w.heap.size v v')→K (a.put o.dst v') w'):o.wp P a w K Q:=by
 obtain ⟨v',w',hrun,h2,h3,h4⟩:=xL (ty:=o.type) (c:=c) hE hown hr h1 h63 hbytes hbase;unfold Oper.wp execOp;simp only [ho,resolve,invoke,builtin,Sem.run_bind,Sem.run_pure,Result.andThen_ok,List.map_toArray,List.map_cons,List.map_nil,hs,hx,hrun];exact h v' w' h2 h3 (ja (Below.refl _ _) hown (Below.refl _ _) h3 hbase) h4
theorem bG {S:List UInt8}{i:Nat}(h:i<S.length) (w:World) :
  (Instr.index 9 (.string (bs S)) (.int .i64 (i:Int))).run Tryz.prog w=.ok (.int .u8 (S[i].toNat:Int)) w:=by
 have hs:=au S;rw [run_index_string w 9 (bs S) .i64 (i:Int) Tryz.underlying9,dif_pos ⟨by omega,by omega⟩]
 rfl
theorem fQ {b:UInt8}{n:Nat}(hn:n<256) (h:b=UInt8.ofNat n):((b.toNat:Int)==(n:Int))=true:=by
 subst h;simp;omega
theorem dw {b:UInt8}{n:Nat}(hn:n<256) (h:b≠UInt8.ofNat n):((b.toNat:Int)==(n:Int))=false:=by
 rw [beq_eq_false_iff_ne];intro he;apply h;have:b.toNat=n:=by omega
 subst this;simp
theorem B2 (b:UInt8):(((b.toNat:Int)==(32:Int))=true∧Cl.cW b=true)∨(((b.toNat:Int)==(32:Int))=false∧((b.toNat:Int)==(9:Int))=true∧Cl.cW b=true)∨(((b.toNat:Int)==(32:Int))=false∧((b.toNat:Int)==(9:Int))=false∧Cl.cW b=false):=by
 by_cases h:b=32
 ·exact .inl ⟨fQ (n:=32) (by omega) h,by subst h;rfl⟩
 ·have h1:=dw (n:=32) (by omega) h
  by_cases h':b=9
  ·exact .inr (.inl ⟨h1,fQ (n:=9) (by omega) h',by subst h';rfl⟩)
  ·exact .inr (.inr ⟨h1,dw (n:=9) (by omega) h',by simp [Cl.cW,h,h']⟩)
theorem cB {S:List UInt8}{i:Nat}(h:i≤S.length) (w:World) :
  (Instr.slice 9 (.string (bs S)) (some (.int .i64 (i:Int))) none none).run Tryz.prog w=.ok (.string (bs (S.drop i))) w:=by
 have hs:=au S;have he:(bs S).extract i (bs S).size=bs (S.drop i):=by
  apply ByteArray.ext;simp only [bs,ByteArray.data_extract,List.extract_toArray,List.extract_eq_take_drop];rw [List.take_of_length_le (by simp [ByteArray.size])]
 have h1:(0:Int)≤(i:Int)∧(i:Int)≤((bs S).size:Int):=by omega
 simp [Instr.slice,run_underlying Tryz.underlying9,Instr.sliceBounds,run_sliceBound,h1,he,go_sem]
theorem oS {S:List UInt8}{i:Nat}(h:i≤S.length) (w:World) :
  (Instr.slice 9 (.string (bs S)) none (some (.int .i64 (i:Int))) none).run Tryz.prog w=.ok (.string (bs (S.take i))) w:=by
 have hs:=au S;have he:(bs S).extract 0 i=bs (S.take i):=by
  apply ByteArray.ext;simp only [bs,ByteArray.data_extract,List.extract_toArray,List.extract_eq_take_drop];simp
 have h1:(0:Int)≤(i:Int)∧(i:Int)≤((bs S).size:Int):=by omega
 simp [Instr.slice,run_underlying Tryz.underlying9,Instr.sliceBounds,run_sliceBound,h1,he,go_sem]
theorem jK {a b:UInt8}(h:a=b):((a.toNat:Int)==(b.toNat:Int))=true:=by subst h;simp
theorem gz {a b:UInt8}(h:a≠b):((a.toNat:Int)==(b.toNat:Int))=false:=by
 rw [beq_eq_false_iff_ne];intro he;exact h (UInt8.toNat_inj.1 (by omega))
theorem nr {a b:Int}(h:a=b):Ending.returned (.int .i64 a)=.returned (.int .i64 b):=by rw [h]
theorem wT {S:List UInt8}{i j:Nat}(h:i≤j) (hj:j≤S.length) (w:World) :
  (Instr.slice 9 (.string (bs S)) (some (.int .i64 (i:Int))) (some (.int .i64 (j:Int))) none).run Tryz.prog w=.ok (.string (bs (mid S i j))) w:=by
 have hs:=au S;have he:(bs S).extract i j=bs (mid S i j):=by
  apply ByteArray.ext;simp only [bs,ByteArray.data_extract,List.extract_toArray,List.extract_eq_take_drop,mid]
 have hr:=run_slice_string (P:=Tryz.prog) w 9 (bs S) .i64 .i64 (i:Int) (j:Int) Tryz.underlying9 (by omega) (by omega) (by omega);rw [hr,show ((i:Int)).toNat=i from by omega,show ((j:Int)).toNat=j from by omega,he]
theorem IF {S:List UInt8}{i:Nat}(h:i<S.length) {v u:Int}(hv:v=(i:Int)) (hu:u=(i:Int)+1) (w:World) :
  (Instr.slice 9 (.string (bs S)) (some (.int .i64 v)) (some (.int .i64 u)) none).run Tryz.prog w=.ok (.string (bs [S[i]])) w:=by
 subst hv hu;have hs:=au S;have he:(bs S).extract i (i+1)=bs [S[i]]:=by
  apply ByteArray.ext;simp only [bs,ByteArray.data_extract,List.extract_toArray,List.extract_eq_take_drop];rw [List.drop_eq_getElem_cons h,show i+1-i=1 from by omega];rfl
 have hr:=run_slice_string (P:=Tryz.prog) w 9 (bs S) .i64 .i64 (i:Int) ((i:Int)+1) Tryz.underlying9 (by omega) (by omega) (by omega);rw [hr,show ((i:Int)).toNat=i from by omega,show ((i:Int)+1).toNat=i+1 from by omega,he]
theorem KT {S:List UInt8}{i:Nat}(h:i<S.length) (w:World) :
  (Instr.slice 9 (.string (bs S)) (some (.int .i64 (i:Int))) (some (.int .i64 ((i:Int)+1))) none).run Tryz.prog w=.ok (.string (bs [S[i]])) w:=IF h rfl rfl w
theorem ec {S:List UInt8}{i:Nat}(h:i<S.length) {v:Int}(hv:v=(i:Int)) (w:World) :
  (Instr.index 9 (.string (bs S)) (.int .i64 v)).run Tryz.prog w=.ok (.int .u8 (S[i].toNat:Int)) w:=by
 subst hv;exact bG h w
theorem oz:(bs []).toList.isEmpty=true:=by rw [bH];rfl
theorem gf (c:UInt8) (r:List UInt8):(bs (c::r)).toList.isEmpty=false:=by rw [bH];rfl
end Go.Proofs.YtddkjkockbcamaaGreatDoor
namespace Go.Proofs.YtddkjkockbcamaaGreatDoor.Lf
open Go.Proofs.YtddkjkockbcamaaGreatDoor.Cl (cW strip)
open Go.Proofs.YtddkjkockbcamaaGreatDoor.Fn (cl rs run trim back emp)
def stop:List UInt8→Bool
 | []=>true
 | b::_=>cW b
def dH:List UInt8→List UInt8
 | []=>[]
 | b::r=>if dH r=[]∧b=35 then [] else b::dH r
theorem tV (l:List UInt8):dH (l++[35])=dH l:=by
 induction l with
 | nil=>rfl
 | cons b r ih=>rw [List.cons_append,dH,dH,ih]
theorem uP (l:List UInt8) {x:UInt8}(h:x≠35):dH (l++[x])=l++[x]:=by
 induction l with
 | nil=>simp [dH,h]
 | cons b r ih=>rw [List.cons_append,dH,ih,if_neg (by simp)]
theorem yR (l:List UInt8):(dH l).length≤l.length:=by
 induction l with
 | nil=>simp [dH]
 | cons b r ih=>simp only [dH];split<;>simp only [List.length_cons,List.length_nil]<;>omega
def closed (u:List UInt8):Bool:=match u.getLast? with
 | none=>true
 | some b=>cW b
def title (t:List UInt8):List UInt8:=if closed (dH t)=true then back (dH t) else t
def eM (l:List UInt8):Option (Nat×List UInt8) :=
 if cl l≤3∧1≤run 35 (rs l)∧run 35 (rs l)≤6∧stop ((rs l).drop (run 35 (rs l)))=true then some (run 35 (rs l),title (trim ((rs l).drop (run 35 (rs l))))) else none
def G5 (c:UInt8):Bool:=c==42||c==45||c==95
def along (c b:UInt8):Bool:=b==c||cW b
def uh (l:List UInt8):Bool:=match rs l with
 | []=>false
 | c::r=>decide (cl l≤3)&&G5 c&&(c::r).all (along c)&&decide (3≤(c::r).count c)
theorem UJ {l:List UInt8}(h:rs l=[]):uh l=false:=by unfold uh;rw [h]
theorem V7 {l:List UInt8}(h:¬ cl l≤3):uh l=false:=by unfold uh;split<;>simp [h]
theorem SH {l r:List UInt8}{c:UInt8}(h:rs l=c::r) (h3:cl l≤3):uh l=(G5 c&&(c::r).all (along c)&&decide (3≤(c::r).count c)):=by
 unfold uh;rw [h];simp [h3]
def quote (l:List UInt8):Option (List UInt8):=match rs l with
 | []=>none
 | c::r=>if cl l≤3∧c=62 then some (strip 1 r) else none
def bullet (c:UInt8):Bool:=c==42||c==45||c==43
def inner (n:Nat):Nat:=if 4<n then 1 else n
def item (l:List UInt8):Option (UInt8×Nat×List UInt8):=match rs l with
 | []=>none
 | c::r =>
  if cl l≤3∧bullet c=true∧uh l=false∧stop r=true then
   if emp r=true then some (c,cl l+2,[]) else some (c,cl l+1+inner (cl r),strip (inner (cl r)) r)
  else none
theorem B0 (t:List UInt8):(title t).length≤t.length:=by
 unfold title
 split
 ·have:=Fn.yY (dH t)
  have:=yR t;omega
 ·exact Nat.le_refl _
end Go.Proofs.YtddkjkockbcamaaGreatDoor.Lf
namespace Go.Proofs.YtddkjkockbcamaaGreatDoor.Bk
open Go.Proofs.YtddkjkockbcamaaGreatDoor.Cl (strip)
open Go.Proofs.YtddkjkockbcamaaGreatDoor.Fn (cl rs emp trim)
structure Nd where
 par:Option Nat
 kind:Nat
 level:Nat
 text:List UInt8
 info:List UInt8
 line:Nat
 sign:UInt8
structure ki where
 n:Nat
 col:Option Nat
structure Pl where
 line:Nat
 op:Fn.Op
 first:Nat
 last:Nat
 closed:Bool
structure St where
 ns:List Nd
 opn:List ki
 para:Option Nat
 fence:Option Nat
 f:Fn.Op
 line:Nat
 places:List Pl
def aW (i:Nat):List Nd→Nat→List Nat
 | [],_=>[]
 | x::r,o=>if x.par=some i then o::aW i r (o+1) else aW i r (o+1)
def kids (ns:List Nd) (i:Nat):List Nat:=aW i ns 0
theorem nM (i:Nat) (a b:List Nd) (o:Nat):aW i (a++b) o=aW i a o++aW i b (o+a.length):=by
 induction a generalizing o with
 | nil=>simp [aW]
 | cons x r ih =>
  simp only [List.cons_append,aW,ih,List.length_cons]
  split<;>simp [Nat.add_assoc,Nat.add_comm 1]
theorem fY (ns:List Nd) (x:Nd) (i:Nat):kids (ns++[x]) i=kids ns i++if x.par=some i then [ns.length] else []:=by
 unfold kids;rw [nM];simp only [aW,Nat.zero_add]
theorem vP (i:Nat) (ns:List Nd) (o:Nat):∀ k∈aW i ns o,o≤k∧k<o+ns.length:=by
 induction ns generalizing o with
 | nil=>simp [aW]
 | cons x r ih =>
  intro k hk;simp only [aW] at hk
  split at hk
  ·rcases List.mem_cons.1 hk with rfl | hk
   ·simp
   ·have:=ih _ k hk;simp only [List.length_cons];omega
  ·have:=ih _ k hk;simp only [List.length_cons];omega
theorem WL {i:Nat}{ns:List Nd}{k:Nat}(hk:k∈kids ns i):k<ns.length:=by
 have:=(vP i ns 0 k hk).2;omega
def RA (ns:List Nd):Prop:=∀ x∈ns,∀ i,x.par=some i→i<ns.length
theorem qB {i:Nat}{ns:List Nd}(h:∀ x∈ns,x.par≠some i) (o:Nat):aW i ns o=[]:=by
 induction ns generalizing o with
 | nil=>rfl
 | cons x r ih=>rw [aW,if_neg (h x List.mem_cons_self)];exact ih (fun y hy=>h y (List.mem_cons_of_mem _ hy)) _
theorem ur {ns:List Nd}(h:RA ns) {i:Nat}(hi:ns.length≤i):kids ns i=[] :=
 qB (fun x hx he=>by have:=h x hx i he;omega) 0
def ordered (ns:List Nd):Prop:=∀ (j:Nat) (x:Nd) (p:Nat),ns[j]? = some x→x.par=some p→p<j
theorem uO {ns:List Nd}(h:ordered ns):RA ns:=fun x hx i hi=>by
 obtain ⟨j,hj⟩:=List.mem_iff_getElem?.1 hx;have:=h j x i hj hi;have:=(List.getElem?_eq_some_iff.1 hj).1;omega
def bp (ns:List Nd) (i:Nat) (t:List UInt8):List Nd:=ns.modify i fun x=>{ x with text:=t }
theorem Ah (k:Nat) (ns:List Nd) (i:Nat) (t:List UInt8) (o:Nat):aW k (bp ns i t) o=aW k ns o:=by
 induction ns generalizing i o with
 | nil=>cases i<;>simp [bp,aW]
 | cons x r ih =>
  cases i with
  | zero=>simp [bp,aW]
  | succ i =>
   have:=ih i (o+1);unfold bp at this ⊢;simp only [List.modify_succ_cons,aW,this]
theorem uT (ns:List Nd) (i:Nat) (t:List UInt8) (k:Nat):kids (bp ns i t) k=kids ns k:=Ah k ns i t 0
theorem jc (ns:List Nd) (i:Nat) (t:List UInt8):(bp ns i t).length=ns.length:=by simp [bp]
def last (st:St):Nat:=match st.opn.getLast? with
 | none=>0
 | some b=>b.n
def shut (k:Nat) (st:St):St:={ st with opn:=st.opn.take k,para:=none,fence:=none }
def add (kind level:Nat) (text info:List UInt8) (sign:UInt8) (st:St):St:={ st with ns:=st.ns++[⟨some (last st),kind,level,text,info,st.line,sign⟩] }
def iF (ns:List Nd) (i:Nat) (c:UInt8):Option Nat:=match (kids ns i).getLast? with
 | none=>none
 | some k=>match ns[k]? with
  | none=>none
  | some x=>if x.kind=2∧x.sign=c then some k else none
def item (c:UInt8) (n:Nat) (st:St):St :=
 match iF st.ns (last st) c with
 | some l=>{ st with ns:=st.ns++[⟨some l,3,0,[],[],st.line,0⟩],opn:=st.opn++[⟨st.ns.length,some n⟩] }
 | none=>{ st with ns:=st.ns++[⟨some (last st),2,0,[],[],st.line,c⟩,⟨some st.ns.length,3,0,[],[],st.line,0⟩],opn:=st.opn++[⟨st.ns.length+1,some n⟩] }
def listed (c:UInt8) (st:St):St×Nat:=match iF st.ns (last st) c with
 | some l=>(st,l)
 | none=>({ st with ns:=st.ns++[⟨some (last st),2,0,[],[],st.line,c⟩] },st.ns.length)
def opened (b:ki) (st:St):St:={ st with opn:=st.opn++[b] }
def put (x:Nd) (st:St):St:={ st with ns:=st.ns++[x] }
theorem UE (c:UInt8) (n:Nat) (st:St):item c n st=opened ⟨(listed c st).1.ns.length,some n⟩ (put ⟨some (listed c st).2,3,0,[],[],(listed c st).1.line,0⟩ (listed c st).1):=by
 unfold item listed
 split<;>simp [opened,put]
def quote (st:St):St:={ st with ns:=st.ns++[⟨some (last st),1,0,[],[],st.line,0⟩],opn:=st.opn++[⟨st.ns.length,none⟩] }
def push (o:Option (UInt8×Nat)) (st:St):St:=match o with
 | none=>quote st
 | some (c,n)=>item c n st
def take:List ki→List UInt8→Nat×List UInt8
 | [],s=>(0,s)
 | b::r,s=>match b.col with
  | none=>match Lf.quote s with
   | none=>(0,s)
   | some q=>((take r q).1+1,(take r q).2)
  | some n=>if emp s=true then ((take r s).1+1,(take r s).2) else if cl s<n then (0,s) else ((take r (strip n s)).1+1,(take r (strip n s)).2)
def opener (s:List UInt8):Option (Option (UInt8×Nat)×List UInt8):=match Lf.quote s with
 | some q=>some (none,q)
 | none=>match Lf.item s with
  | some (c,n,r)=>some (some (c,n),r)
  | none=>none
def grow:Nat→St→List UInt8→St×List UInt8
 | 0,st,s=>(st,s)
 | m+1,st,s=>match opener s with
  | none=>(st,s)
  | some (o,r)=>grow m (push o st) r
def leaf (s:List UInt8) (k:Nat) (began:Bool) (st:St):St :=
 if emp s=true then shut k st
 else match Lf.eM s with
  | some (n,t)=>add 5 n t [] 0 (shut k st)
  | none =>
   if Lf.uh s=true then add 6 0 [] [] 0 (shut k st)
   else match Fn.cu s with
    | some f =>
     { add 7 0 [] f.info 0 (shut k st) with fence:=some st.ns.length,f:=f,places:=if (st.opn.take k).isEmpty=true then st.places++[⟨st.line,f,st.line+1,0,false⟩] else st.places }
    | none=>match st.para,began with
     | some p,false=>{ st with ns:=bp st.ns p (((st.ns[p]?.map (·.text)).getD [])++10::trim s) }
     | _,_=>{ add 4 0 (trim s) [] 0 (shut k st) with para:=some st.ns.length }
def iK (n:Nat) (c:Bool) (ps:List Pl):List Pl:=match ps.getLast? with
 | none=>ps
 | some p=>ps.dropLast++[{ p with last:=n,closed:=c }]
def fenced (s:List UInt8) (i:Nat) (st:St):St :=
 if Fn.ends st.f.c st.f.n s=true then { st with fence:=none,places:=if st.opn.isEmpty=true then iK st.line true st.places else st.places }
 else { st with ns:=bp st.ns i (((st.ns[i]?.map (·.text)).getD [])++strip st.f.ind s++[10]) }
def below (s:List UInt8) (k:Nat) (st:St):St :=
 if k<40 then match opener s with
  | none=>leaf s k false st
  | some (o,r)=>leaf (grow (39-k) (push o (shut k st)) r).2 (grow (39-k) (push o (shut k st)) r).1.opn.length true (grow (39-k) (push o (shut k st)) r).1
 else leaf s k false st
def text (s:List UInt8) (st:St):St :=
 match st.fence with
 | some i=>if (take st.opn s).1=st.opn.length then fenced (take st.opn s).2 i st else below (take st.opn s).2 (take st.opn s).1 st
 | none=>below (take st.opn s).2 (take st.opn s).1 st
def start:St:=⟨[⟨none,0,0,[],[],0,0⟩],[],none,none,⟨0,0,0,[]⟩,0,[]⟩
def lines:List (List UInt8)→Nat→St→St
 | [],_,st=>st
 | s::r,i,st=>lines r (i+1) (text s { st with line:=i })
def run (ls:List (List UInt8)):St:=lines ls 0 start
def places (ls:List (List UInt8)) (n:Nat):List Pl:=match (run ls).places.getLast? with
 | none=>(run ls).places
 | some p=>if p.closed=true then (run ls).places else iK n false (run ls).places
inductive Tree where
 | mk (kind level:Nat) (text info:List UInt8) (line:Nat) (kids:List Tree)
def bT:List Nd→Nat→Nat→List Tree
 | [],_,_=>[]
 | x::r,o,i=>if x.par=some i then .mk x.kind x.level x.text x.info x.line (bT r (o+1) o)::bT r (o+1) i else bT r (o+1) i
def tree (ls:List (List UInt8)):Tree:=match (run ls).ns with
 | []=>.mk 0 0 [] [] 0 []
 | x::r=>.mk x.kind x.level x.text x.info x.line (bT r 1 0)
end Go.Proofs.YtddkjkockbcamaaGreatDoor.Bk
namespace Go.Proofs.YtddkjkockbcamaaGreatDoor
open Go.RowKit
def wu (c:UInt8) (l:List UInt8) (at_:Int):Nat:=if at_<0 then 0 else Fn.run c (l.drop at_.toNat)
theorem kL (c:UInt8) (l:List UInt8) (k:Nat):wu c l (k:Int)=Fn.run c (l.drop k):=by unfold wu;rw [if_neg (by omega)];rfl
theorem iG {S:List UInt8}{i j:Nat}{v u:Int}(h:i≤j) (hj:j≤S.length) (hv:v=(i:Int)) (hu:u=(j:Int)) (w:World) :
  (Instr.slice 9 (.string (bs S)) (some (.int .i64 v)) (some (.int .i64 u)) none).run Tryz.prog w=.ok (.string (bs (mid S i j))) w:=by
 subst hv hu;exact wT h hj w
def gq:Option (List UInt8×Nat)→Value
 | none=>.tuple #[.string ⟨#[]⟩,.int .i64 0,.bool false]
 | some (t,e)=>.tuple #[.string (bs t),.int .i64 (e:Int),.bool true]
theorem l5 {l:List UInt8}{at_:Int}(h:at_<0∨(l.length:Int)≤at_∨(∃ h:at_.toNat<l.length,l[at_.toNat]≠96)∨(0<at_∧∃ h:at_.toNat-1<l.length,l[at_.toNat-1]=96)):Cd.opens l at_=false:=by
 unfold Cd.opens;refine decide_eq_false ?_;rintro ⟨h1,h2,h3,h4⟩;rcases h with h | h | ⟨hl,h⟩ | ⟨h0,hl,h⟩
 ·omega
 ·omega
 ·exact h (by simpa [List.getD,List.getElem?_eq_getElem hl] using h3)
 ·rcases h4 with h4 | h4
  ·omega
  ·exact h4 (by simpa [List.getD,List.getElem?_eq_getElem hl] using h)
theorem ML {l:List UInt8}{k:Nat}(h:k<l.length) (h1:l[k]=96) (h2:k=0∨∃ h:k-1<l.length,l[k-1]≠96):Cd.opens l (k:Int)=true:=by
 unfold Cd.opens;refine decide_eq_true ⟨by omega,h,by simpa [List.getD,List.getElem?_eq_getElem h] using h1,?_⟩;rcases h2 with h2 | ⟨hl,h2⟩
 ·exact .inl h2
 ·exact .inr (by simpa [List.getD,List.getElem?_eq_getElem hl] using h2)
theorem DG (c:Nat):(c:Int)-(c:Int)%4+4=(Cl.step c 9:Nat)∧(c:Int)+4-(c:Int)%4=(Cl.step c 9:Nat):=by
 rw [Cl.RP];have:c%4<4:=Nat.mod_lt _ (by omega);omega
theorem AY (c:Nat) (b:UInt8) (w:World) (hc:c≤1000000000000000) :
  Calls Tryz.prog 182 #[.int .i64 c,.int .u8 (b.toNat:Int)] w fun e w'=>e=.returned (.int .i64 (Cl.step c b:Nat))∧w=w':=by
 by_cases h:b=9
 ·subst h
  have ht:=(DG c).1;go_enter Tryz.func182,Tryz.ntmps182;go_wp2;go_ret;refine ⟨?_,rfl⟩;rw [← ht];rfl
 ·have ht:=dw (n:=9) (by omega) h
  have hs:=Cl.Qu c h;clear h;go_enter Tryz.func182,Tryz.ntmps182;go_wp2;go_ret;refine ⟨?_,rfl⟩;rw [hs];rfl
theorem CO {p:Nat×Nat}{c k:Nat}(h:Hid ((c,k)=p)):Ending.returned (.tuple #[.int .i64 (c:Int),.int .i64 (k:Int)])=.returned (.tuple #[.int .i64 (p.1:Nat),.int .i64 (p.2:Nat)]):=by
 rw [← h.out]
theorem xu (l:List UInt8) (n:Int) (w:World) (hl:l.length≤140737488355328) :
  Calls Tryz.prog 151 #[.string (bs l),.int .i64 n] w fun e w'=>e=.returned (.tuple #[.int .i64 ((Cl.lead n l 0).1:Nat),.int .i64 ((Cl.lead n l 0).2:Nat)])∧w=w':=by
 have hsz:=au l;go_enter Tryz.func151,Tryz.ntmps151;go_wp2_with fail
 go_loop [6,7] (fun v u=>∃ c k:Nat,k≤l.length∧c≤4*k∧v=.int .i64 c∧u=.int .i64 k∧Hid (Cl.fin n l k c=Cl.lead n l 0)) (fun v u=>l.length-(intOf u).toNat)
 case atStart=>exact ⟨0,0,by omega,by omega,rfl,rfl,Lib.hid (Cl.Qk n l)⟩
 case round =>
  obtain ⟨c,k,hk,hck,rfl,rfl,hf⟩:=hrel
  by_cases hc:(c:Int)<n
  ·rcases Nat.lt_or_eq_of_le hk with hlt | rfl
   ·have hx:=bG hlt w
    have hst:=Cl.r8 c l[k];rcases B2 l[k] with ⟨h1,h3⟩ | ⟨h1,h2,h3⟩ | ⟨h1,h2,h3⟩
    ·have hf2:=Lib.hid ((Cl.GS hlt hc h3).trans hf.out)
     go_wp2_with (go_at_call 182;refine (AY c l[k] _ (by omega)).mono ?_;rintro e w' ⟨rfl,rfl⟩)
     go_round
     case rel=>exact ⟨Cl.step c l[k],k+1,by omega,by omega,rfl,by go_num,hf2⟩
     case measure=>simp [intOf];omega
    ·have hf2:=Lib.hid ((Cl.GS hlt hc h3).trans hf.out)
     go_wp2_with (go_at_call 182;refine (AY c l[k] _ (by omega)).mono ?_;rintro e w' ⟨rfl,rfl⟩)
     go_round
     case rel=>exact ⟨Cl.step c l[k],k+1,by omega,by omega,rfl,by go_num,hf2⟩
     case measure=>simp [intOf];omega
    ·have aP:=Lib.hid ((Cl.Ti hlt h3).symm.trans hf.out)
     go_wp2;go_returns;exact ⟨CO aP,rfl⟩
   ·have aP:=Lib.hid ((Cl.Vf (by omega)).symm.trans hf.out)
    go_wp2;go_returns;exact ⟨CO aP,rfl⟩
  ·have aP:=Lib.hid ((Cl.Qo l hc).symm.trans hf.out)
   go_wp2;go_returns;exact ⟨CO aP,rfl⟩
theorem mE (l:List UInt8) (w:World) (hl:l.length≤140737488355328) :
  Calls Tryz.prog 181 #[.string (bs l)] w fun e w'=>e=.returned (.tuple #[.int .i64 ((Cl.lead Cl.inf l 0).1:Nat),.int .i64 ((Cl.lead Cl.inf l 0).2:Nat)])∧w=w':=by
 go_enter Tryz.func181,Tryz.ntmps181;go_wp2_with (go_at_call 151;refine (xu l Cl.inf _ hl).mono ?_;rintro e w' ⟨rfl,rfl⟩);go_ret2;exact ⟨rfl,rfl⟩
theorem SJ {p q:Nat}:Ending.returned (.bool (((p:Nat):Int)==(q:Int)))=.returned (.bool (decide (p=q))):=by
 congr 2;rw [Bool.eq_iff_iff];simp;omega
theorem uN (l:List UInt8) (w:World) (hl:l.length≤140737488355328) :
  Calls Tryz.prog 122 #[.string (bs l)] w fun e w'=>e=.returned (.bool (decide ((Cl.lead Cl.inf l 0).2=l.length)))∧w=w':=by
 have hsz:=au l;go_enter Tryz.func122,Tryz.ntmps122;go_wp2_with (go_at_call 151;refine (xu l Cl.inf _ hl).mono ?_;rintro e w' ⟨rfl,rfl⟩);go_ret;exact ⟨SJ,rfl⟩
end Go.Proofs.YtddkjkockbcamaaGreatDoor
namespace Go.Proofs.YtddkjkockbcamaaGreatDoor
def Bk.cN (ns:List Bk.Nd) (j:Nat):Bk.Tree:=match ns[j]? with
 | some x=>.mk x.kind x.level x.text x.info x.line (Bk.bT (ns.drop (j+1)) (j+1) j)
 | none=>.mk 0 0 [] [] 0 []
theorem ru (ns:List Bk.Nd) (i:Nat):∀ (r:List Bk.Nd) (o:Nat),ns.drop o=r→Bk.bT r o i=(Bk.aW i r o).map (Bk.cN ns)
 | [],_,_=>rfl
 | x::r,o,h=>by
  have hx:ns[o]? = some x:=by rw [← List.head?_drop,h];rfl
  have hr:ns.drop (o+1)=r:=by rw [← List.tail_drop,h];rfl
  unfold Bk.bT Bk.aW
  split
  ·rw [List.map_cons,← ru ns i r (o+1) hr]
   congr 1;unfold Bk.cN;rw [hx,hr]
  ·exact ru ns i r (o+1) hr
theorem Ia {ns:List Bk.Nd}(h:Bk.ordered ns) {i:Nat}(hi:i<ns.length):Bk.kids ns i=Bk.aW i (ns.drop (i+1)) (i+1):=by
 have hl:(ns.take (i+1)).length=i+1:=by rw [List.length_take];omega
 have ht:Bk.aW i (ns.take (i+1)) 0=[]:=Bk.qB (fun x hx he=>by
  obtain ⟨j,hj⟩:=List.mem_iff_getElem?.1 hx;have hjl:=(List.getElem?_eq_some_iff.1 hj).1;rw [hl] at hjl;rw [List.getElem?_take_of_lt (by omega)] at hj;have:=h j x i hj he;omega) 0
 have:=Bk.nM i (ns.take (i+1)) (ns.drop (i+1)) 0;rw [List.take_append_drop,ht,List.nil_append,hl,Nat.zero_add] at this;exact this
theorem jg {ns:List Bk.Nd}(h:Bk.ordered ns) {i:Nat}(hi:i<ns.length):Bk.cN ns i=.mk ns[i].kind ns[i].level ns[i].text ns[i].info ns[i].line ((Bk.kids ns i).map (Bk.cN ns)):=by
 rw [Ia h hi,← ru ns i _ (i+1) rfl];unfold Bk.cN;rw [List.getElem?_eq_getElem hi]
end Go.Proofs.YtddkjkockbcamaaGreatDoor
namespace Go.Proofs.YtddkjkockbcamaaGreatDoor.Ln
def qw (b:UInt8):Bool:=b==10||b==13
def eu:List UInt8→Nat
 | []=>0
 | 13::10::_=>2
 | _::_=>1
def run:List UInt8→Nat
 | []=>0
 | b::r=>if qw b then 0 else run r+1
theorem gE (l:List UInt8):run l≤l.length:=by
 induction l with
 | nil=>simp [run]
 | cons b r ih=>simp only [run];split<;>simp<;>omega
theorem Ou {x:UInt8}(r:List UInt8) (h:x≠10):eu (13::x::r)=1:=by
 unfold eu;split
 ·simp_all
 ·rename_i heq;injection heq with _ h2;injection h2 with h3 _;exact absurd h3 h
 ·rfl
theorem Hx {x:UInt8}(r:List UInt8) (h:x≠13):eu (x::r)=1:=by
 unfold eu;split
 ·simp_all
 ·rename_i heq;injection heq with h3 _;exact absurd h3 h
 ·rfl
theorem BS (l:List UInt8):eu l≤l.length:=by
 unfold eu;split<;>simp
theorem IM {l:List UInt8}(h:0<l.length):1≤eu l:=by
 match l,h with
 | [b],_=>unfold eu;split<;>simp_all
 | b::c::r,_=>unfold eu;split<;>simp_all
def pN (l:List UInt8) (at_:Nat):Nat:=at_+run (l.drop at_)
def xB (l:List UInt8) (at_:Nat):Nat:=pN l at_+eu (l.drop (pN l at_))
theorem PG {l:List UInt8}{k:Nat}(h:k≤l.length):pN l k≤l.length:=by
 have:=gE (l.drop k);rw [List.length_drop] at this;unfold pN;omega
theorem CI (l:List UInt8) (k:Nat):k≤pN l k:=by unfold pN;omega
theorem CE {l:List UInt8}{k:Nat}(h:k≤l.length):xB l k≤l.length:=by
 have h1:=PG h;have:=BS (l.drop (pN l k));rw [List.length_drop] at this;unfold xB;omega
theorem KA (l:List UInt8) (k:Nat):pN l k≤xB l k:=by unfold xB;omega
theorem tG {l:List UInt8}{k:Nat}(h:k<l.length):k<xB l k:=by
 have h0:=CI l k
 by_cases h1:pN l k<l.length
 ·have:=IM (l:=l.drop (pN l k)) (by rw [List.length_drop];omega)
  unfold xB;omega
 ·have h2:=KA l k;omega
theorem jF {b:UInt8}(r:List UInt8) (h:qw b=true):run (b::r)=0:=by simp [run,h]
theorem SU {b:UInt8}(r:List UInt8) (h:qw b=false):run (b::r)=run r+1:=by simp [run,h]
theorem ZB (l:List UInt8):pN l l.length=l.length:=by simp [pN,run]
theorem UU {l:List UInt8}{k:Nat}(hk:k<l.length) (h:qw l[k]=true):pN l k=k:=by
 unfold pN;rw [List.drop_eq_getElem_cons hk,jF _ h];omega
theorem Qa {l:List UInt8}{k:Nat}(hk:k<l.length) (h:qw l[k]=false):pN l (k+1)=pN l k:=by
 unfold pN;rw [List.drop_eq_getElem_cons hk,SU _ h];omega
def lines (l:List UInt8) (k:Nat):List (Nat×Nat×Nat) :=
 if _h:k<l.length then (k,pN l k,xB l k)::lines l (xB l k) else []
termination_by l.length-k
decreasing_by have:=tG _h;omega
theorem Cp {l:List UInt8}{k:Nat}(h:¬ k<l.length):lines l k=[]:=by rw [lines,dif_neg h]
theorem KE {l:List UInt8}{k:Nat}(h:k<l.length):lines l k=(k,pN l k,xB l k)::lines l (xB l k):=by rw [lines,dif_pos h]
theorem lQ (l:List UInt8) (k:Nat):(lines l k).length≤l.length-k:=by
 rw [lines]
 split
 ·rename_i h
  have h1:=tG h;have h2:=CE (l:=l) (k:=k) (by omega);have:=lQ l (xB l k);simp only [List.length_cons];omega
 ·simp
termination_by l.length-k
decreasing_by have:=tG (by assumption);omega
theorem sA (l:List UInt8) (k:Nat):∀ x∈lines l k,x.1≤x.2.1∧x.2.1≤x.2.2∧x.2.2≤l.length:=by
 intro x hx;rw [lines] at hx
 split at hx
 ·rename_i h
  rcases List.mem_cons.1 hx with rfl | hx
  ·exact ⟨CI _ _,KA _ _,CE (by omega)⟩
  ·exact sA l (xB l k) x hx
 ·simp at hx
termination_by l.length-k
decreasing_by have:=tG (by assumption);omega
def texts (l:List UInt8) (k:Nat):List (List UInt8):=(lines l k).map fun x=>mid l x.1 x.2.1
theorem uk {l:List UInt8}{k:Nat}(h:¬ k<l.length):texts l k=[]:=by simp [texts,Cp h]
theorem yw {l:List UInt8}{k:Nat}(h:k<l.length):texts l k=mid l k (pN l k)::texts l (xB l k):=by simp [texts,KE h]
theorem Bf (l:List UInt8) (k:Nat):(texts l k).length≤l.length-k:=by simpa [texts] using lQ l k
def join (ls:List (List UInt8)) (e:List UInt8):List UInt8:=ls.flatMap fun s=>s++e
theorem Mj {ls:List (List UInt8)}{k:Nat}(e:List UInt8) (h:k<ls.length):join (ls.take (k+1)) e=join (ls.take k) e++ls[k]++e:=by
 rw [List.take_succ_eq_append_getElem h];simp only [join,List.flatMap_append,List.flatMap_cons,List.flatMap_nil,List.append_nil,List.append_assoc]
theorem Dx (ls:List (List UInt8)) (k:Nat) (e:List UInt8):(join (ls.take k) e).length≤(join ls e).length:=by
 have h:=List.take_append_drop k ls;have:join ls e=join (ls.take k) e++join (ls.drop k) e:=by rw [join,join,join,← List.flatMap_append,h]
 rw [this];simp
theorem join_append (a b:List (List UInt8)) (e:List UInt8):join (a++b) e=join a e++join b e:=by simp [join]
end Go.Proofs.YtddkjkockbcamaaGreatDoor.Ln
namespace Go.Proofs.YtddkjkockbcamaaGreatDoor
open Go.RowKit
theorem run_mk {P:Program}{T E:TypeId}{size bytes:Nat}(hE:EI P T E size bytes) {z:Value}(hz:(P.info? E).map (fun i=>i.zero)=some (some z)) (n:Nat) (hn:n≤1000000000) (hb:bytes≤1000) (w:World) :
  (Instr.makeSlice T (.int .i64 (n:Int)) (.int .i64 (n:Int))).run P w=.ok (.slice (some ⟨w.heap.size,0,none⟩) n n) (w.alloc (.cells (madeCells z.cells (n*size)) E)):=by
 obtain ⟨i,z',hi,hz',hs1,hs2,OE⟩:=hE.info;have hzz:i.zero=some z:=by rw [hi] at hz;simpa using hz
 have hm:bytes*n≤1000*1000000000:=Nat.mul_le_mul hb hn;have hm':(i.bytes:Int)*(n:Int)≤281474976710656:=by
  rw [hs2,← Int.natCast_mul];omega
 have:=run_make (P:=P) w T E i z hE.ht hi hzz .i64 .i64 (n:Int) (n:Int) (by omega) (Int.le_refl _) hm' (by omega);rw [Int.toNat_natCast,hs1] at this;exact this
theorem dI (w:World) (B size n:Nat) (E:TypeId) (z:Array Value) (hB:B≤w.heap.size) (hn:n≤1000000000):(w.alloc (.cells (madeCells z (n*size)) E)).ownsRow B E size (.slice (some ⟨w.heap.size,0,none⟩) n n) n (madeCells z (n*size)).toList :=
 World.ownsRow_lit w _ n hB (by unfold maxLen;omega) (size_madeCells _ _)
end Go.Proofs.YtddkjkockbcamaaGreatDoor
namespace Go.Proofs.YtddkjkockbcamaaGreatDoor.Pb
open Go.Proofs.YtddkjkockbcamaaGreatDoor.Cl (strip)
open Go.Proofs.YtddkjkockbcamaaGreatDoor.Fn (cl rs emp trim)
open Go.Proofs.YtddkjkockbcamaaGreatDoor.Bk (Tree Pl)
structure Cn where
 kind:Nat
 line:Nat
 kids:List Tree
 sign:UInt8
 col:Nat
 lst:Option (UInt8×Nat×List Tree)
structure Of where
 kind:Nat
 line:Nat
 lines:List (List UInt8)
 op:Fn.Op
 ended:Bool
structure Rd where
 row:List Cn
 leaf:Of
 places:List Pl
def o7:Option (UInt8×Nat×List Tree)→List Tree
 | none=>[]
 | some (_,ln,is)=>[.mk 2 0 [] [] ln is]
def Cn.all (c:Cn):List Tree:=c.kids++o7 c.lst
def Cn.tree (c:Cn):Tree:=.mk c.kind 0 [] [] c.line c.all
def Cn.cU (c:Cn):UInt8:=match c.lst with
 | none=>0
 | some (s,_,_)=>s
def Cn.add (t:Tree) (c:Cn):Cn:={ c with kids:=c.all++[t],lst:=none }
def Cn.addItem (d c:Cn):Cn:=match c.lst with
 | none=>{ c with kids:=c.all,lst:=some (d.sign,d.line,[d.tree]) }
 | some (s,ln,is)=>if s=d.sign then { c with lst:=some (s,ln,is++[d.tree]) } else { c with kids:=c.all,lst:=some (d.sign,d.line,[d.tree]) }
def give (d c:Cn):Cn:=if d.kind=3 then Cn.addItem d c else Cn.add d.tree c
def qP:Fn.Op:=⟨0,0,0,[]⟩
def bB:Of:=⟨0,0,[],qP,false⟩
def eK:List (List UInt8)→List UInt8
 | []=>[]
 | [x]=>x
 | x::y::r=>x++10::eK (y::r)
theorem FE (l:List (List UInt8)) (x:List UInt8) (h:l≠[]):eK (l++[x])=eK l++10::x:=by
 induction l with
 | nil=>exact absurd rfl h
 | cons a r ih =>
  cases r with
  | nil=>rfl
  | cons b s =>
   have:=ih (by simp);simp only [List.cons_append,eK] at this ⊢;rw [this];simp
def Of.place (l:Of):Pl:=⟨l.line,l.op,l.line+1,l.line+1+l.lines.length,l.ended⟩
def lF (l:Of):Tree:=.mk 4 0 (eK l.lines) [] l.line []
def iL (l:Of):Tree:=.mk 7 0 (Ln.join l.lines [10]) l.op.info l.line []
def bJ (t:Tree) (r:Rd):Rd:=match r.row with
 | []=>r
 | c::o=>{ r with row:=c.add t::o }
def ax (r:Rd):Rd :=
 if r.leaf.kind=4 then { bJ (lF r.leaf) r with leaf:=bB }
 else if r.leaf.kind=7 then { bJ (iL r.leaf) r with leaf:=bB,places:=if r.row.length=1 then r.places++[r.leaf.place] else r.places }
 else { r with leaf:=bB }
def nW:Nat→List Cn→List Cn
 | 0,r=>r
 | _+1,[]=>[]
 | _+1,[c]=>[c]
 | n+1,d::c::o=>nW n (give d c::o)
def aI (k:Nat) (r:Rd):Rd:={ ax r with row:=nW ((ax r).row.length-k) (ax r).row }
def fresh (ln:Nat):Option (UInt8×Nat)→Cn
 | none=>⟨1,ln,[],0,0,none⟩
 | some (c,n)=>⟨3,ln,[],c,n,none⟩
def push (c:Cn) (r:Rd):Rd:={ r with row:=c::r.row }
def begin (ln:Nat):Nat→Nat→Rd→List UInt8→Rd×Nat×List UInt8
 | 0,k,r,s=>(r,k,s)
 | m+1,k,r,s=>match Bk.opener s with
  | none=>(r,k,s)
  | some (o,q)=>begin ln m (k+1) (push (fresh ln o) (aI k r)) q
def Cn.take (c:Cn) (s:List UInt8):Option (List UInt8) :=
 if c.kind=1 then Lf.quote s
 else if c.kind=3 then (if emp s=true then some s else if cl s<c.col then none else some (strip c.col s))
 else some s
def take:List Cn→List UInt8→Nat×List UInt8
 | [],s=>(0,s)
 | c::r,s=>match c.take s with
  | none=>(0,s)
  | some q=>((take r q).1+1,(take r q).2)
def eW (ln k:Nat) (s:List UInt8) (r:Rd):Rd :=
 if emp s=true then aI k r
 else match Lf.eM s with
  | some (n,t)=>bJ (.mk 5 n t [] ln []) (aI k r)
  | none =>
   if Lf.uh s=true then bJ (.mk 6 0 [] [] ln []) (aI k r)
   else match Fn.cu s with
    | some f=>{ aI k r with leaf:=⟨7,ln,[],f,false⟩ }
    | none =>
     if r.leaf.kind=4 then { r with leaf:={ r.leaf with lines:=r.leaf.lines++[trim s] } }
     else { aI k r with leaf:=⟨4,ln,[trim s],qP,false⟩ }
def gw (s:List UInt8) (r:Rd):Rd :=
 if Fn.ends r.leaf.op.c r.leaf.op.n s=true then ax { r with leaf:={ r.leaf with ended:=true } }
 else { r with leaf:={ r.leaf with lines:=r.leaf.lines++[strip r.leaf.op.ind s] } }
def fJ (ln:Nat) (s:List UInt8) (r:Rd):Rd :=
 if r.leaf.kind=7∧(take r.row.reverse s).1=r.row.length then gw (take r.row.reverse s).2 r
 else eW ln (begin ln (41-(take r.row.reverse s).1) (take r.row.reverse s).1 r (take r.row.reverse s).2).2.1 (begin ln (41-(take r.row.reverse s).1) (take r.row.reverse s).1 r (take r.row.reverse s).2).2.2
  (begin ln (41-(take r.row.reverse s).1) (take r.row.reverse s).1 r (take r.row.reverse s).2).1
def start:Rd:=⟨[⟨0,0,[],0,0,none⟩],bB,[]⟩
def lines:List (List UInt8)→Nat→Rd→Rd
 | [],_,r=>r
 | s::t,i,r=>lines t (i+1) (fJ i s r)
def read (ls:List (List UInt8)):Rd:=aI 1 (lines ls 0 start)
def tree (ls:List (List UInt8)):Tree:=match (read ls).row with
 | []=>.mk 0 0 [] [] 0 []
 | c::_=>c.tree
end Go.Proofs.YtddkjkockbcamaaGreatDoor.Pb
namespace Go.Proofs.YtddkjkockbcamaaGreatDoor.Pb
open Go.Proofs.YtddkjkockbcamaaGreatDoor.Cl (strip)
open Go.Proofs.YtddkjkockbcamaaGreatDoor.Fn (cl rs emp trim)
open Go.Proofs.YtddkjkockbcamaaGreatDoor.Bk (Tree Pl Nd ki St cN kids ordered)
inductive uf (ns:List Nd):Nat→Nat→Prop where
 | refl (j:Nat):uf ns j j
 | step {j p q:Nat}{x:Nd}:ns[p]? = some x→x.par=some q→uf ns j q→uf ns j p
theorem xq {ns:List Nd}(h:ordered ns) {j p:Nat}(a:uf ns j p):j≤p:=by
 induction a with
 | refl=>exact Nat.le_refl _
 | step h1 h2 _ ih=>have:=h _ _ _ h1 h2;omega
theorem Uh {ns:List Nd}{j k p:Nat}(a:uf ns j p) (b:uf ns k p):uf ns j k∨uf ns k j:=by
 induction a with
 | refl=>exact .inr b
 | step h1 h2 a2 ih =>
  cases b with
  | refl=>exact .inl (.step h1 h2 a2)
  | step h3 h4 b2 =>
   rw [h1] at h3;cases h3;rw [h2] at h4;cases h4;exact ih b2
theorem CR {ns:List Nd}(h:ordered ns) {i j k p:Nat}{x y:Nd}(hj:ns[j]? = some x) (Ph:x.par=some i) (hk:ns[k]? = some y) (hkp:y.par=some i) (a:uf ns j p) (b:uf ns k p):j=k:=by
 have h1:∀ {j k:Nat}{x y:Nd},ns[j]? = some x→x.par=some i→ns[k]? = some y→y.par=some i→uf ns j k→j=k:=by
  intro j k x y hj Ph hk hkp a;cases a with
  | refl=>rfl
  | step h3 h4 b2 =>
   rw [hk] at h3;cases h3;rw [hkp] at h4;cases h4;have:=xq h b2;have:=h _ _ _ hj Ph;omega
 rcases Uh a b with c | c
 ·exact h1 hj Ph hk hkp c
 ·exact (h1 hk hkp hj Ph c).symm
theorem pG {ns:List Nd}{j q p:Nat}{x:Nd}(hj:ns[j]? = some x) (hp:x.par=some q) (a:uf ns j p):uf ns q p:=by
 induction a with
 | refl=>exact .step hj hp (.refl _)
 | step h1 h2 _ ih=>exact .step h1 h2 ih
theorem C7 {i:Nat}{l:List Nd}{o k:Nat}(h:k∈Bk.aW i l o):∃ x,l[k-o]? = some x∧x.par=some i∧o≤k:=by
 induction l generalizing o with
 | nil=>simp [Bk.aW] at h
 | cons x r ih =>
  simp only [Bk.aW] at h;have h2:k∈Bk.aW i r (o+1)→∃ y,(x::r)[k-o]? = some y∧y.par=some i∧o≤k:=fun h=>by
   obtain ⟨y,h1,h2,h3⟩:=ih h;refine ⟨y,?_,h2,by omega⟩;rw [show k-o=(k-(o+1))+1 from by omega,List.getElem?_cons_succ];exact h1
  split at h
  ·rcases List.mem_cons.1 h with rfl | h
   ·rename_i hx
    exact ⟨x,by simp,hx,Nat.le_refl _⟩
   ·exact h2 h
  ·exact h2 h
theorem bU {ns:List Nd}{i k:Nat}(h:k∈kids ns i):∃ x,ns[k]? = some x∧x.par=some i:=by
 obtain ⟨x,h1,h2,_⟩:=C7 h;exact ⟨x,by simpa using h1,h2⟩
theorem zY (i:Nat) (l:List Nd) (o:Nat):(Bk.aW i l o).Pairwise (· < ·):=by
 induction l generalizing o with
 | nil=>simp [Bk.aW]
 | cons x r ih =>
  simp only [Bk.aW]
  split
  ·exact List.pairwise_cons.2 ⟨fun k hk=>by have:=(Bk.vP i r (o+1) k hk).1;omega,ih _⟩
  ·exact ih _
theorem mF {ns:List Nd}{i j:Nat}{ks:List Nat}(h:kids ns i=ks++[j]):∀ k∈ks,k≠j:=fun k hk e=>by
 have hp:(ks++[j]).Pairwise (· < ·):=by rw [← h];exact zY i ns 0
 have:=(List.pairwise_append.1 hp).2.2 k hk j (by simp);omega
structure Fr (ns ns':List Nd) (p:Nat):Prop where
 node:∀ j,j<ns.length→j≠p→ns'[j]? = ns[j]?
 kids:∀ j,j<ns.length→j≠p→kids ns' j=kids ns j
 tree:∀ j,j<ns.length→¬ uf ns j p→cN ns' j=cN ns j
 len:ns.length≤ns'.length
theorem Xz {ns ns':List Nd}(h:ordered ns) (h':ordered ns') {p:Nat}(hlen:ns.length≤ns'.length) (hn:∀ j,j<ns.length→j≠p→ns'[j]? = ns[j]?) (hk:∀ j,j<ns.length→j≠p→kids ns' j=kids ns j):Fr ns ns' p:=by
 refine ⟨hn,hk,?_,hlen⟩;have:∀ n j,j<ns.length→ns.length-j≤n→¬ uf ns j p→cN ns' j=cN ns j:=by
  intro n
  induction n with
  | zero=>intro j h1 h2;omega
  | succ n ih =>
   intro j h1 h2 h3;have Ph:j≠p:=fun e=>h3 (e ▸ .refl _);have e1:=hn j h1 Ph;rw [List.getElem?_eq_getElem h1,List.getElem?_eq_getElem (by omega)] at e1;rw [jg h h1,jg h' (i:=j) (by omega),hk j h1 Ph,Option.some.inj e1];congr 1;refine List.map_congr_left fun k hkm=>?_;obtain ⟨x,hx,T7⟩:=bU hkm;have hkl:=Bk.WL hkm;have hgt:=h _ _ _ hx T7;exact ih k hkl (by omega) (fun a=>h3 (pG hx T7 a))
 intro j hj hna;exact this _ j hj (Nat.le_refl _) hna
theorem kS {ns:List Nd}(h:ordered ns) {x:Nd}{p:Nat}(hx:x.par=some p) (hp:p<ns.length):ordered (ns++[x]):=by
 intro j y q hj hq;rcases Nat.lt_or_ge j ns.length with hl | hl
 ·rw [List.getElem?_append_left hl] at hj
  exact h j y q hj hq
 ·rw [List.getElem?_append_right hl] at hj
  have:j-ns.length<1:=(List.getElem?_eq_some_iff.1 hj).1;rw [show j-ns.length=0 from by omega] at hj;cases hj;rw [hx] at hq;cases hq;omega
theorem IS {ns:List Nd}(h:ordered ns) {x:Nd}{p:Nat}(hx:x.par=some p) (hp:p<ns.length):Fr ns (ns++[x]) p :=
 Xz h (kS h hx hp) (by simp) (fun j hj _=>List.getElem?_append_left hj) (fun j _ Ph=>by
  rw [Bk.fY,if_neg (fun e=>Ph (by rw [hx] at e;exact (Option.some.inj e).symm)),List.append_nil])
theorem sj {ns:List Nd}(h:ordered ns) (p:Nat) (t:List UInt8):ordered (Bk.bp ns p t):=by
 intro j y q hj hq;unfold Bk.bp at hj;rw [List.getElem?_modify] at hj;cases hn:ns[j]? with
 | none=>rw [hn] at hj;cases hj
 | some z =>
  rw [hn] at hj;refine h j z q hn ?_;simp only [Option.map_eq_map,Option.map_some,Option.some.injEq] at hj;subst hj
  split at hq<;>exact hq
theorem Wx {ns:List Nd}(h:ordered ns) (p:Nat) (t:List UInt8):Fr ns (Bk.bp ns p t) p :=
 Xz h (sj h p t) (by rw [Bk.jc];exact Nat.le_refl _) (fun j _ Ph=>by simp [Bk.bp,show p≠j from fun e=>Ph e.symm]) (fun j _ _=>Bk.uT ns p t j)
def Own (ns:List Nd) (i:Nat) (c:Cn):Prop:=∃ x,ns[i]? = some x∧x.kind=c.kind∧x.level=0∧x.text=[]∧x.info=[]∧x.line=c.line
def pe (ns:List Nd) (ks:List Nat) (c:Cn):Prop:=c.all=ks.map (cN ns) ∧
 match c.lst with
 | some (s,_,is)=>is≠[]∧∃ ks' L x,ks=ks'++[L]∧ns[L]? = some x∧x.kind=2∧x.sign=s
 | none=>∀ ks' L x,ks=ks'++[L]→ns[L]? = some x→x.kind≠2
def N0 (ns:List Nd) (i:Nat) (c:Cn) (j:Nat) (d:Cn):Prop :=
 (d.kind=1∧∃ ks,kids ns i=ks++[j]∧pe ns ks c) ∨
 (d.kind=3∧∃ ks L x is,kids ns i=ks++[L]∧ns[L]? = some x∧x.kind=2∧x.level=0∧x.text=[]∧x.info=[]∧x.sign=d.sign∧kids ns L=is++[j] ∧
  ((is=[]∧x.line=d.line∧pe ns ks c∧∀ s ln js,c.lst=some (s,ln,js)→s≠d.sign)∨(is≠[]∧c.lst=some (d.sign,x.line,is.map (cN ns))∧c.kids=ks.map (cN ns))))
def num:List ki→Nat
 | []=>0
 | b::_=>b.n
def Up (ns:List Nd):List ki→List Cn→Prop
 | [],[c]=>c.kind=0∧Own ns 0 c
 | b::bs,d::c::o=>Own ns b.n d∧(d.kind=1∧b.col=none∨d.kind=3∧b.col=some d.col)∧N0 ns (num bs) c b.n d∧Up ns bs (c::o)
 | _,_=>False
theorem jC {ns ns':List Nd}{p i j:Nat}(h:ordered ns) (hf:Fr ns ns' p) (ha:uf ns j p) {ks:List Nat}(hk:kids ns i=ks++[j]) {c:Cn}(hc:pe ns ks c):pe ns' ks c:=by
 obtain ⟨y,hy,hyp⟩:=bU (by rw [hk];simp:j∈kids ns i);have hna:∀ k∈ks,¬ uf ns k p∧k<ns.length∧k≠p:=fun k hkm=>by
  obtain ⟨x,hx,T7⟩:=bU (by rw [hk];simp [hkm]:k∈kids ns i);have h1:¬ uf ns k p:=fun a=>mF hk k hkm (CR h hx T7 hy hyp a ha);exact ⟨h1,(List.getElem?_eq_some_iff.1 hx).1,fun e=>h1 (e ▸ .refl _)⟩
 refine ⟨?_,?_⟩
 ·rw [hc.1]
  exact List.map_congr_left fun k hkm=>(hf.tree k (hna k hkm).2.1 (hna k hkm).1).symm
 ·have h2:=hc.2
  cases hl:c.lst with
  | none =>
   rw [hl] at h2;intro ks' L x e hx;have hm:L∈ks:=by rw [e];simp
   rw [hf.node L (hna L hm).2.1 (hna L hm).2.2] at hx;exact h2 ks' L x e hx
  | some q =>
   rw [hl] at h2;obtain ⟨s,ln,is⟩:=q;obtain ⟨h0,ks',L,x,e,hx,h3⟩:=h2;have hm:L∈ks:=by rw [e];simp
   exact ⟨h0,ks',L,x,e,by rw [hf.node L (hna L hm).2.1 (hna L hm).2.2];exact hx,h3⟩
theorem AI {ns ns':List Nd}{i:Nat}{c:Cn}(h:Own ns i c) (he:ns'[i]? = ns[i]?):Own ns' i c:=by
 obtain ⟨x,hx,h1⟩:=h;exact ⟨x,he.trans hx,h1⟩
theorem Dq {ns:List Nd}{i:Nat}{c:Cn}(h:Own ns i c):i<ns.length:=by
 obtain ⟨x,hx,_⟩:=h;exact (List.getElem?_eq_some_iff.1 hx).1
theorem yF {ns:List Nd}{bs:List ki}{c:Cn}{o:List Cn}(h:Up ns bs (c::o)):Own ns (num bs) c:=by
 cases bs with
 | nil =>
  cases o with
  | nil=>exact h.2
  | cons a b=>cases h
 | cons b bs =>
  cases o with
  | nil=>cases h
  | cons a o=>exact h.1
theorem VG {ns:List Nd}{i j p:Nat}{c d:Cn}(h:N0 ns i c j d) (a:uf ns j p):uf ns i p:=by
 rcases h with ⟨_,ks,hk,_⟩ | ⟨_,ks,L,x,is,hk,hx,_,_,_,_,_,OU,_⟩
 ·obtain ⟨y,hy,hyp⟩:=bU (by rw [hk];simp:j∈kids ns i)
  exact pG hy hyp a
 ·obtain ⟨y,hy,hyp⟩:=bU (by rw [OU];simp:j∈kids ns L)
  obtain ⟨z,hz,Wl⟩:=bU (by rw [hk];simp:L∈kids ns i);exact pG hz Wl (pG hy hyp a)
theorem JI {ns ns':List Nd}{i j p:Nat}{c d:Cn}(ho:ordered ns) (hf:Fr ns ns' p) (h:N0 ns i c j d) (a:uf ns j p):N0 ns' i c j d:=by
 have Ph:=xq ho a;rcases h with ⟨h1,ks,hk,hc⟩ | ⟨h1,ks,L,x,is,hk,hx,h2,h3,h4,h5,h6,OU,h7⟩
 ·obtain ⟨y,hy,hyp⟩:=bU (by rw [hk];simp:j∈kids ns i)
  have hij:=ho _ _ _ hy hyp;have hjl:=(List.getElem?_eq_some_iff.1 hy).1;exact .inl ⟨h1,ks,by rw [hf.kids i (by omega) (by omega)];exact hk,jC ho hf a hk hc⟩
 ·obtain ⟨y,hy,hyp⟩:=bU (by rw [OU];simp:j∈kids ns L)
  obtain ⟨z,hz,Wl⟩:=bU (by rw [hk];simp:L∈kids ns i);have hLj:=ho _ _ _ hy hyp;have hiL:=ho _ _ _ hz Wl;have hjl:=(List.getElem?_eq_some_iff.1 hy).1;have aL:=pG hy hyp a;have hna:∀ i' ks' l',kids ns i'=ks'++[l']→uf ns l' p→∀ k∈ks',cN ns' k=cN ns k:=fun i' ks' l' hk' al k hkm=>by
   obtain ⟨u,hu,hup⟩:=bU (by rw [hk'];simp [hkm]:k∈kids ns i');obtain ⟨v,hv,hvp⟩:=bU (by rw [hk'];simp:l'∈kids ns i');exact hf.tree k (List.getElem?_eq_some_iff.1 hu).1 (fun b=>mF hk' k hkm (CR ho hu hup hv hvp b al))
  refine .inr ⟨h1,ks,L,x,is,by rw [hf.kids i (by omega) (by omega)];exact hk,by rw [hf.node L (by omega) (by omega)];exact hx,h2,h3,h4,h5,h6,by rw [hf.kids L (by omega) (by omega)];exact OU,?_⟩;rcases h7 with ⟨e1,e2,hc,e3⟩ | ⟨e1,e2,e3⟩
  ·exact .inl ⟨e1,e2,jC ho hf aL hk hc,e3⟩
  ·refine .inr ⟨e1,?_,?_⟩
   ·rw [e2];exact congrArg (fun t=>some (d.sign,x.line,t)) (List.map_congr_left fun k hkm=>(hna L is j OU a k hkm).symm)
   ·rw [e3];exact List.map_congr_left fun k hkm=>(hna i ks L hk aL k hkm).symm
theorem pI {ns ns':List Nd}{p:Nat}(ho:ordered ns) (hf:Fr ns ns' p):∀ {bs:List ki}{c:Cn}{o:List Cn},Up ns bs (c::o)→uf ns (num bs) p→ns'[num bs]? = ns[num bs]? → Up ns' bs (c::o)
 | [],c,[],h,_,he=>⟨h.1,AI h.2 he⟩
 | [],c,_::_,h,_,_=>by cases h
 | b::bs,d,[],h,_,_=>by cases h
 | b::bs,d,c::o,h,a,he=>by
  obtain ⟨h1,h2,h3,h4⟩:=h;refine ⟨AI h1 he,h2,JI ho hf h3 a,pI ho hf h4 (VG h3 a) ?_⟩;have hlt:num bs<b.n:=by
   rcases h3 with ⟨_,ks,hk,_⟩ | ⟨_,ks,L,x,is,hk,hx,_,_,_,_,_,OU,_⟩
   ·obtain ⟨y,hy,hyp⟩:=bU (by rw [hk];simp:b.n∈kids ns (num bs))
    exact ho _ _ _ hy hyp
   ·obtain ⟨y,hy,hyp⟩:=bU (by rw [OU];simp:b.n∈kids ns L)
    obtain ⟨z,hz,Wl⟩:=bU (by rw [hk];simp:L∈kids ns (num bs));have:=ho _ _ _ hy hyp;have:=ho _ _ _ hz Wl;omega
  have hle:=xq ho a;exact hf.node _ (Dq (yF h4)) (by show num bs≠p;have:b.n≤p:=hle;omega)
theorem p7 {ns:List Nd}{bs:List ki}{c c':Cn}{o:List Cn}(h:Up ns bs (c::o)) (e1:c'.kind=c.kind) (e2:c'.line=c.line) (e3:c'.sign=c.sign) (e4:c'.col=c.col):Up ns bs (c'::o):=by
 have ho:∀ i,Own ns i c→Own ns i c':=fun i hx=>by unfold Own at hx ⊢;rw [e1,e2];exact hx
 cases bs with
 | nil =>
  cases o with
  | nil=>exact ⟨by rw [e1];exact h.1,ho _ h.2⟩
  | cons a b=>cases h
 | cons b bs =>
  cases o with
  | nil=>cases h
  | cons a o =>
   obtain ⟨h1,h2,h3,h4⟩:=h;refine ⟨ho _ h1,by rw [e1,e4];exact h2,?_,h4⟩;unfold N0 at h3 ⊢;rw [e1,e2,e3];exact h3
def D8 (ns:List Nd) (i:Nat) (c:Cn) (q:Option Nat):Prop:=∃ ks,kids ns i=ks++q.toList∧pe ns ks c∧∀ p,q=some p→kids ns p=[]
theorem G6 {ns:List Nd}(ho:ordered ns) {i:Nat}{c:Cn}(h:D8 ns i c none) (hw:Own ns i c):cN ns i=c.tree:=by
 obtain ⟨ks,hk,hc,_⟩:=h;obtain ⟨x,hx,e1,e2,e3,e4,e5⟩:=hw;have hi:=(List.getElem?_eq_some_iff.1 hx).1;rw [List.getElem?_eq_getElem hi] at hx;rw [jg ho hi,Option.some.inj hx,e1,e2,e3,e4,e5,hk];unfold Cn.tree;rw [hc.1];simp
theorem wP {ns:List Nd}{i p:Nat}{c:Cn}{t:Tree}{ks:List Nat}(hk:kids ns i=ks++[p]) (hc:pe ns ks c) (ht:cN ns p=t) {x:Nd}(hx:ns[p]? = some x) (h2:x.kind≠2):D8 ns i (c.add t) none:=by
 refine ⟨ks++[p],by simpa using hk,⟨?_,?_⟩,fun _ h=>by cases h⟩
 ·show (c.all++[t])++[]=_
  rw [hc.1,List.append_nil,List.map_append,List.map_cons,List.map_nil,ht]
 ·intro ks' L y e hy
  have:=(List.append_inj' e rfl).2;cases this;rw [hx] at hy;cases hy;exact h2
theorem Zd {ns:List Nd}(ho:ordered ns) {b:ki}{bs:List ki}{d c:Cn}{o:List Cn}(h:Up ns (b::bs) (d::c::o)) (ht:D8 ns b.n d none):Up ns bs (give d c::o)∧D8 ns (num bs) (give d c) none:=by
 obtain ⟨h1,h2,h3,h4⟩:=h;have pz:=G6 ho ht h1;obtain ⟨x1,hx1,ek,_,_,_,_⟩:=h1;rcases h3 with ⟨e,ks,hk,hc⟩ | ⟨e,ks,L,x,is,hk,hx,f1,f2,f3,f4,f5,OU,h7⟩
 ·have hg:give d c=c.add d.tree:=by unfold give;rw [if_neg (by omega)]
  rw [hg];exact ⟨p7 h4 rfl rfl rfl rfl,wP hk hc pz hx1 (by omega)⟩
 ·have hg:give d c=Cn.addItem d c:=by unfold give;rw [if_pos e]
  rw [hg];have hL:=(List.getElem?_eq_some_iff.1 hx).1;have hLt:cN ns L=.mk 2 0 [] [] x.line (is.map (cN ns)++[d.tree]):=by
   have hx':=hx;rw [List.getElem?_eq_getElem hL] at hx';rw [jg ho hL,Option.some.inj hx',f1,f2,f3,f4,OU,List.map_append,List.map_cons,List.map_nil,pz]
  rcases h7 with ⟨rfl,e2,hc,e3⟩ | ⟨e1,e2,e3⟩
  ·have hai:Cn.addItem d c={ c with kids:=c.all,lst:=some (d.sign,d.line,[d.tree]) }:=by
    unfold Cn.addItem;cases hl:c.lst with
    | none=>rfl
    | some q=>obtain ⟨s,ln,js⟩:=q;exact if_neg (e3 s ln js hl)
   rw [hai];refine ⟨p7 h4 rfl rfl rfl rfl,ks++[L],by simpa using hk,⟨?_,?_⟩,fun _ h=>by cases h⟩
   ·rw [List.map_append,List.map_cons,List.map_nil,hLt,← hc.1,← e2];rfl
   ·exact ⟨by simp,ks,L,x,rfl,hx,f1,f5⟩
  ·have hai:Cn.addItem d c={ c with lst:=some (d.sign,x.line,is.map (cN ns)++[d.tree]) }:=by
    unfold Cn.addItem;rw [e2];exact if_pos rfl
   rw [hai];refine ⟨p7 h4 rfl rfl rfl rfl,ks++[L],by simpa using hk,⟨?_,?_⟩,fun _ h=>by cases h⟩
   ·rw [List.map_append,List.map_cons,List.map_nil,hLt,← e3];rfl
   ·exact ⟨by simp,ks,L,x,rfl,hx,f1,f5⟩
theorem tO {ns:List Nd}:∀ {bs:List ki}{row:List Cn},Up ns bs row→row.length=bs.length+1
 | [],[],h=>by cases h
 | [],[_],_=>rfl
 | [],_::_::_,h=>by cases h
 | _::_,[],h=>by cases h
 | _::_,[_],h=>by cases h
 | _::bs,_::c::o,h=>by
  have:=tO (bs:=bs) (row:=c::o) h.2.2.2;simp only [List.length_cons] at this ⊢;omega
theorem Dt {ns:List Nd}(ho:ordered ns):∀ (n:Nat) {bs:List ki}{c:Cn}{o:List Cn},n≤bs.length→Up ns bs (c::o)→D8 ns (num bs) c none→∃ c' o',nW n (c::o)=c'::o'∧Up ns (bs.drop n) (c'::o')∧D8 ns (num (bs.drop n)) c' none
 | 0,bs,c,o,_,h,ht=>⟨c,o,rfl,h,ht⟩
 | n+1,[],_,_,hn,_,_=>by simp at hn
 | n+1,b::bs,d,[],_,h,_=>by cases h
 | n+1,b::bs,d,c::o,hn,h,ht=>by
  obtain ⟨h1,h2⟩:=Zd ho h ht;obtain ⟨c',o',e,h3⟩:=Dt ho n (by simpa using hn) h1 h2;exact ⟨c',o',e,h3⟩
theorem jw (st:St):Bk.last st=num st.opn.reverse:=by
 unfold Bk.last;rcases List.eq_nil_or_concat st.opn with h | ⟨r,b,h⟩
 ·rw [h];rfl
 ·rw [h,List.concat_eq_append,List.getLast?_concat,List.reverse_append];rfl
def Kz (st:St) (f:Of) (q:Option Nat):Prop :=
 (f.kind=0∧st.para=none∧st.fence=none∧q=none) ∨
 (f.kind=4∧st.fence=none∧f.lines≠[]∧∃ p x,q=some p∧st.para=some p∧st.ns[p]? = some x∧x.kind=4∧x.level=0∧x.text=eK f.lines∧x.info=[]∧x.line=f.line) ∨
 (f.kind=7∧st.para=none∧st.f=f.op∧∃ p x,q=some p∧st.fence=some p∧st.ns[p]? = some x∧x.kind=7∧x.level=0∧x.text=Ln.join f.lines [10]∧x.info=f.op.info∧x.line=f.line)
structure zR (i:Nat) (st:St) (r:Rd):Prop where
 ord:ordered st.ns
 tip:∃ c o q,r.row=c::o∧Up st.ns st.opn.reverse (c::o)∧D8 st.ns (num st.opn.reverse) c q∧Kz st r.leaf q
 shut:∀ p∈r.places,p.closed=true
 places:st.places=r.places++if r.leaf.kind=7∧r.row.length=1 then [⟨r.leaf.line,r.leaf.op,r.leaf.line+1,0,false⟩] else []
 going:r.leaf.kind=7→r.leaf.ended=false
 time:r.leaf.kind=7→r.row.length=1→i=r.leaf.line+1+r.leaf.lines.length
structure tq (st:St) (r:Rd):Prop where
 ord:ordered st.ns
 tip:∃ c o,r.row=c::o∧Up st.ns st.opn.reverse (c::o)∧D8 st.ns (num st.opn.reverse) c none
 leaf:r.leaf=bB
 para:st.para=none
 fence:st.fence=none
 shut:∀ p∈r.places,p.closed=true
 places:st.places=r.places
theorem tq.sim {st:St}{r:Rd}(h:tq st r) (i:Nat):zR i st r:=by
 obtain ⟨c,o,e,h1,h2⟩:=h.tip;exact ⟨h.ord,⟨c,o,none,e,h1,h2,.inl ⟨by rw [h.leaf];rfl,h.para,h.fence,rfl⟩⟩,h.shut,by rw [h.leaf,h.places];simp [bB],fun hk=>(by rw [h.leaf] at hk;cases hk),fun hk=>by rw [h.leaf] at hk;cases hk⟩
theorem kU {st:St}{r:Rd}{c:Cn}{o:List Cn}{q:Option Nat}{bs:List ki}(ho:ordered st.ns) (hr:r.row=c::o) (hu:Up st.ns bs (c::o)) (ht:D8 st.ns (num bs) c q) (hl:Kz st r.leaf q) :
  ∃ c',(ax r).row=c'::o∧Up st.ns bs (c'::o)∧D8 st.ns (num bs) c' none:=by
 rcases hl with ⟨h1,_,_,rfl⟩ | ⟨h1,h2,h3,p,x,rfl,h5,hx,g1,g2,g3,g4,g5⟩ | ⟨h1,h2,h3,p,x,rfl,h5,hx,g1,g2,g3,g4,g5⟩
 ·refine ⟨c,?_,hu,ht⟩
  unfold ax;rw [if_neg (by omega),if_neg (by omega)];exact hr
 ·obtain ⟨ks,hk,hc,hp⟩:=ht
  have hpl:=(List.getElem?_eq_some_iff.1 hx).1;have HF:cN st.ns p=lF r.leaf:=by
   have hx':=hx;rw [List.getElem?_eq_getElem hpl] at hx';rw [jg ho hpl,Option.some.inj hx',g1,g2,g3,g4,g5,hp p rfl];rfl
  refine ⟨c.add (lF r.leaf),?_,p7 hu rfl rfl rfl rfl,wP (by simpa using hk) hc HF hx (by omega)⟩;unfold ax;rw [if_pos h1];simp [bJ,hr]
 ·obtain ⟨ks,hk,hc,hp⟩:=ht
  have hpl:=(List.getElem?_eq_some_iff.1 hx).1;have HF:cN st.ns p=iL r.leaf:=by
   have hx':=hx;rw [List.getElem?_eq_getElem hpl] at hx';rw [jg ho hpl,Option.some.inj hx',g1,g2,g3,g4,g5,hp p rfl];rfl
  refine ⟨c.add (iL r.leaf),?_,p7 hu rfl rfl rfl rfl,wP (by simpa using hk) hc HF hx (by omega)⟩;unfold ax;rw [if_neg (by omega),if_pos h1];simp [bJ,hr]
theorem ou (r:Rd):(ax r).leaf=bB:=by
  unfold ax;split;· rfl
  split<;>rfl
theorem lE {r:Rd}(h:¬ (r.leaf.kind=7∧r.row.length=1)):(ax r).places=r.places:=by
 have ha:∀ t,(bJ t r).places=r.places:=fun t=>by unfold bJ;split<;>rfl
 unfold ax
 split
 ·exact ha _
 ·split
  ·rename_i h7
   exact if_neg (fun e=>h ⟨h7,e⟩)
  ·rfl
theorem MH {i:Nat}{st:St}{r:Rd}(h:zR i st r) {k:Nat}(hk:k≤st.opn.length) (hn:¬ (r.leaf.kind=7∧r.row.length=1)):tq (Bk.shut k st) (aI (k+1) r):=by
 obtain ⟨c,o,q,hr,hu,ht,hl⟩:=h.tip;obtain ⟨c',hr',XV,ht'⟩:=kU h.ord hr hu ht hl;have hlen:=tO XV;rw [List.length_reverse] at hlen;have hm:(c'::o).length-(k+1)=st.opn.length-k:=by omega
 obtain ⟨c2,o2,e2,hu2,ZZ⟩:=Dt h.ord (st.opn.length-k) (by simp) XV ht';have zX:(st.opn.take k).reverse=st.opn.reverse.drop (st.opn.length-k):=by rw [List.reverse_take]
 refine ⟨h.ord,⟨c2,o2,?_,?_,?_⟩,ou r,rfl,rfl,?_,?_⟩
 ·show nW _ (ax r).row=_
  rw [hr',hm];exact e2
 ·show Up st.ns (st.opn.take k).reverse _
  rw [zX];exact hu2
 ·show D8 st.ns (num (st.opn.take k).reverse) _ _
  rw [zX];exact ZZ
 ·show ∀ p∈(ax r).places,_
  rw [lE hn];exact h.shut
 ·show st.places=(ax r).places
  rw [lE hn,h.places,if_neg hn,List.append_nil]
theorem HS {ns ns':List Nd}{i:Nat}(ho:ordered ns) (hf:Fr ns ns' i) {ks:List Nat}(hk:∀ k∈ks,k∈kids ns i) {c:Cn}(hc:pe ns ks c):pe ns' ks c:=by
 have hna:∀ k∈ks,¬ uf ns k i∧k<ns.length∧k≠i:=fun k hkm=>by
  obtain ⟨x,hx,T7⟩:=bU (hk k hkm);have:=ho _ _ _ hx T7;exact ⟨fun a=>by have:=xq ho a;omega,(List.getElem?_eq_some_iff.1 hx).1,by omega⟩
 refine ⟨?_,?_⟩
 ·rw [hc.1]
  exact List.map_congr_left fun k hkm=>(hf.tree k (hna k hkm).2.1 (hna k hkm).1).symm
 ·have h2:=hc.2
  cases hl:c.lst with
  | none =>
   rw [hl] at h2;intro ks' L x e hx;have hm:L∈ks:=by rw [e];simp
   rw [hf.node L (hna L hm).2.1 (hna L hm).2.2] at hx;exact h2 ks' L x e hx
  | some q =>
   rw [hl] at h2;obtain ⟨s,ln,is⟩:=q;obtain ⟨h0,ks',L,x,e,hx,h3⟩:=h2;have hm:L∈ks:=by rw [e];simp
   exact ⟨h0,ks',L,x,e,by rw [hf.node L (hna L hm).2.1 (hna L hm).2.2];exact hx,h3⟩
theorem wU {ns:List Nd}(ho:ordered ns) {bs:List ki}{c:Cn}{o:List Cn}(hu:Up ns bs (c::o)) (ht:D8 ns (num bs) c none) {x:Nd}(hx:x.par=some (num bs)) :
  ordered (ns++[x])∧Up (ns++[x]) bs (c::o)∧D8 (ns++[x]) (num bs) c (some ns.length):=by
 have hlt:=Dq (yF hu);have hf:=IS ho hx hlt;have ho':=kS ho hx hlt;obtain ⟨ks,hk,hc,_⟩:=ht;refine ⟨ho',pI ho hf hu (.refl _) (List.getElem?_append_left hlt),ks,?_,HS ho hf (fun k hkm=>by rw [hk];simpa using hkm) hc,fun p hp=>?_⟩
 ·rw [Bk.fY,if_pos hx,hk];simp
 ·cases hp
  rw [Bk.fY,if_neg (by rw [hx];intro e;have:=Option.some.inj e;omega),List.append_nil];exact Bk.ur (Bk.uO ho) (Nat.le_refl _)
theorem iX (ns:List Nd) (x:Nd):(ns++[x])[ns.length]? = some x:=by simp
theorem FT {st:St}{r:Rd}(h:tq st r) {kd:Nat}(lv:Nat) (t inf:List UInt8) (h2:kd≠2):tq (Bk.add kd lv t inf 0 st) (bJ (.mk kd lv t inf st.line []) r):=by
 obtain ⟨c,o,hr,hu,ht⟩:=h.tip;obtain ⟨h1,h3,ks,hk,hc,hp⟩:=wU h.ord hu ht (x:=⟨some (Bk.last st),kd,lv,t,inf,st.line,0⟩) (by rw [jw]);have hpl:st.ns.length<(st.ns++[(⟨some (Bk.last st),kd,lv,t,inf,st.line,0⟩:Nd)]).length:=by simp
 have HF:cN (st.ns++[(⟨some (Bk.last st),kd,lv,t,inf,st.line,0⟩:Nd)]) st.ns.length=.mk kd lv t inf st.line []:=by
  have hx':=iX st.ns ⟨some (Bk.last st),kd,lv,t,inf,st.line,0⟩;rw [List.getElem?_eq_getElem hpl] at hx';rw [jg h1 hpl,Option.some.inj hx',hp _ rfl];rfl
 have abz:(bJ (.mk kd lv t inf st.line []) r).places=r.places:=by simp [bJ,hr]
 refine ⟨h1,⟨c.add (.mk kd lv t inf st.line []),o,by simp [bJ,hr],p7 h3 rfl rfl rfl rfl,wP hk hc HF (iX _ _) h2⟩,?_,h.para,h.fence,?_,?_⟩
 ·have:=h.leaf;simp only [bJ,hr];exact this
 ·rw [abz];exact h.shut
 ·rw [abz];exact h.places
theorem Fb {st:St}{r:Rd}(h:tq st r) (kd lv:Nat) (t inf:List UInt8):∃ c o,r.row=c::o∧ordered (Bk.add kd lv t inf 0 st).ns∧Up (Bk.add kd lv t inf 0 st).ns st.opn.reverse (c::o)∧D8 (Bk.add kd lv t inf 0 st).ns (num st.opn.reverse) c (some st.ns.length):=by
 obtain ⟨c,o,hr,hu,ht⟩:=h.tip;obtain ⟨h1,h3,h4⟩:=wU h.ord hu ht (x:=⟨some (Bk.last st),kd,lv,t,inf,st.line,0⟩) (by rw [jw]);exact ⟨c,o,hr,h1,h3,h4⟩
theorem uF {ns:List Nd}{i:Nat}(h:kids ns i=[]) (ln:Nat) (o:Option (UInt8×Nat)):D8 ns i (fresh ln o) none:=by
 refine ⟨[],by simpa using h,?_,fun _ h=>by cases h⟩;cases o<;>exact ⟨rfl,fun ks' L x e=>by simp at e⟩
theorem DA {ns:List Nd}{b:ki}{bs:List ki}{d c:Cn}{o:List Cn}(h1:Own ns b.n d) (h2:d.kind=1∧b.col=none∨d.kind=3∧b.col=some d.col) (h3:N0 ns (num bs) c b.n d) (h4:Up ns bs (c::o)):Up ns (b::bs) (d::c::o):=⟨h1,h2,h3,h4⟩
theorem mc (l:List ki) (b:ki):(l++[b]).reverse=b::l.reverse:=by simp
theorem By {st:St}{r:Rd}(h:tq st r) (op:Option (UInt8×Nat)):tq (Bk.push op st) (push (fresh st.line op) r):=by
 obtain ⟨c,o,hr,hu,ht⟩:=h.tip;have hlt:=Dq (yF hu);cases op with
 | none =>
  obtain ⟨h1,h3,ks,hk,hc,hp⟩:=wU h.ord hu ht (x:=⟨some (Bk.last st),1,0,[],[],st.line,0⟩) (by rw [jw]);refine ⟨h1,⟨fresh st.line none,c::o,by simp [push,hr],?_,?_⟩,h.leaf,h.para,h.fence,h.shut,h.places⟩
  ·show Up _ (st.opn++[(⟨st.ns.length,none⟩:ki)]).reverse _
   rw [mc];exact DA ⟨_,iX _ _,rfl,rfl,rfl,rfl,rfl⟩ (.inl ⟨rfl,rfl⟩) (.inl ⟨rfl,ks,hk,hc⟩) h3
  ·show D8 _ (num (st.opn++[(⟨st.ns.length,none⟩:ki)]).reverse) _ _
   rw [mc];exact uF (hp _ rfl) _ _
 | some q =>
  obtain ⟨s,n⟩:=q;obtain ⟨ks,hk,hc,_⟩:=ht;have hk':kids st.ns (num st.opn.reverse)=ks:=by simpa using hk
  cases hlo:Bk.iF st.ns (Bk.last st) s with
  | none =>
   obtain ⟨h1,h3,ks1,jq,hc1,HI⟩:=wU h.ord hu ⟨ks,hk,hc,fun _ h=>by cases h⟩ (x:=⟨some (Bk.last st),2,0,[],[],st.line,s⟩) (by rw [jw]);obtain ⟨ns1,YT⟩:∃ ns1,st.ns++[(⟨some (Bk.last st),2,0,[],[],st.line,s⟩:Nd)]=ns1:=⟨_,rfl⟩
   have hL:=iX st.ns ⟨some (Bk.last st),2,0,[],[],st.line,s⟩;have LR:ns1.length=st.ns.length+1:=by rw [← YT];simp
   have hni:num st.opn.reverse<st.ns.length:=hlt;have agW:ks1=ks:=by
    rw [Bk.fY,if_pos (by rw [jw]),hk'] at jq;exact (List.append_inj' jq rfl).1.symm
   rw [YT] at h1 h3 jq hc1 HI hL;have zg:Bk.push (some (s,n)) st={ st with ns:=ns1++[⟨some st.ns.length,3,0,[],[],st.line,0⟩],opn:=st.opn++[⟨ns1.length,some n⟩] }:=by
    show Bk.item s n st=_;unfold Bk.item;rw [hlo,LR,← YT];simp
   rw [zg];have HO:st.ns.length<ns1.length:=by omega
   have hf2:=IS h1 (x:=⟨some st.ns.length,3,0,[],[],st.line,0⟩) rfl HO;have ho2:=kS h1 (x:=⟨some st.ns.length,3,0,[],[],st.line,0⟩) rfl HO;have OU:uf ns1 (num st.opn.reverse) st.ns.length:=pG hL (by rw [jw]) (.refl _);refine ⟨ho2,⟨fresh st.line (some (s,n)),c::o,by simp [push,hr],?_,?_⟩,h.leaf,h.para,h.fence,h.shut,h.places⟩
   ·show Up _ (st.opn++[(⟨ns1.length,some n⟩:ki)]).reverse _
    rw [mc];refine DA ⟨_,iX _ _,rfl,rfl,rfl,rfl,rfl⟩ (.inr ⟨rfl,rfl⟩) (.inr ⟨rfl,ks1,st.ns.length,⟨some (Bk.last st),2,0,[],[],st.line,s⟩,[],?_,?_,rfl,rfl,rfl,rfl,rfl,?_,.inl ⟨rfl,rfl,?_,?_⟩⟩) (pI h1 hf2 h3 OU (List.getElem?_append_left (by omega)))
    ·rw [hf2.kids _ (by omega) (by omega)];simpa using jq
    ·rw [List.getElem?_append_left HO];exact hL
    ·rw [Bk.fY,if_pos rfl,HI _ rfl]
    ·exact jC h1 hf2 (.refl _) (by simpa using jq) hc1
    ·intro s' ln' js' hl e
     subst e;have h5:=hc.2;rw [hl] at h5;obtain ⟨_,ks',L,x,e,hx,f1,f2⟩:=h5;unfold Bk.iF at hlo;rw [jw,hk',e,List.getLast?_concat] at hlo;simp only [hx] at hlo;rw [if_pos ⟨f1,f2⟩] at hlo;cases hlo
   ·show D8 _ (num (st.opn++[(⟨ns1.length,some n⟩:ki)]).reverse) _ _
    rw [mc];refine uF ?_ _ _;show kids _ ns1.length=_;rw [Bk.fY,if_neg (by intro e;have:=Option.some.inj e;omega),List.append_nil];exact Bk.ur (Bk.uO h1) (Nat.le_refl _)
  | some L =>
   unfold Bk.iF at hlo;rw [jw,hk'] at hlo;rcases List.eq_nil_or_concat ks with e0 | ⟨ks0,L',e0⟩
   ·rw [e0] at hlo;cases hlo
   ·rw [List.concat_eq_append] at e0
    rw [e0,List.getLast?_concat] at hlo;simp only at hlo;cases hx:st.ns[L']? with
    | none=>rw [hx] at hlo;cases hlo
    | some x =>
     rw [hx] at hlo;simp only at hlo
     split at hlo
     ·rename_i hx2
      cases hlo;have HO:=(List.getElem?_eq_some_iff.1 hx).1;have h5:=hc.2;cases hl:c.lst with
      | none=>rw [hl] at h5;exact absurd hx2.1 (h5 ks0 L x e0 hx)
      | some t =>
       obtain ⟨s',ln,is⟩:=t;rw [hl] at h5;obtain ⟨his,ks',L2,x2,e2,aaP,f1,f2⟩:=h5;rw [e0] at e2;obtain ⟨rfl,e3⟩:=List.append_inj' e2 rfl;cases e3;rw [hx] at aaP;cases aaP;have hall:=hc.1;rw [e0,List.map_append] at hall;unfold Cn.all at hall;rw [hl] at hall;obtain ⟨hck,hcl⟩:=List.append_inj' hall (by simp [o7]);have ab2:Tree.mk 2 0 [] [] ln is=cN st.ns L:=(List.cons.inj hcl).1;have hx':=hx;rw [List.getElem?_eq_getElem HO] at hx';rw [jg h.ord HO,Option.some.inj hx'] at ab2;injection ab2 with g1 g2 g3 g4 g5 g6;have zg:Bk.push (some (s,n)) st={ st with ns:=st.ns++[⟨some L,3,0,[],[],st.line,0⟩],opn:=st.opn++[⟨st.ns.length,some n⟩] }:=by
        show Bk.item s n st=_;unfold Bk.item Bk.iF;rw [jw,hk',e0,List.getLast?_concat];simp only [hx];rw [if_pos hx2]
       rw [zg];have hf2:=IS h.ord (x:=⟨some L,3,0,[],[],st.line,0⟩) rfl HO;have ho2:=kS h.ord (x:=⟨some L,3,0,[],[],st.line,0⟩) rfl HO;obtain ⟨z,hz,Wl⟩:=bU (by rw [hk',e0];simp:L∈kids st.ns (num st.opn.reverse));have hiL:=h.ord _ _ _ hz Wl;have OU:uf st.ns (num st.opn.reverse) L:=pG hz Wl (.refl _);refine ⟨ho2,⟨fresh st.line (some (s,n)),c::o,by simp [push,hr],?_,?_⟩,h.leaf,h.para,h.fence,h.shut,h.places⟩
       ·show Up _ (st.opn++[(⟨st.ns.length,some n⟩:ki)]).reverse _
        rw [mc];refine DA ⟨_,iX _ _,rfl,rfl,rfl,rfl,rfl⟩ (.inr ⟨rfl,rfl⟩) (.inr ⟨rfl,ks0,L,x,kids st.ns L,?_,?_,f1,g2.symm,g3.symm,g4.symm,hx2.2,?_,.inr ⟨?_,?_,?_⟩⟩) (pI h.ord hf2 hu OU (List.getElem?_append_left hlt))
        ·rw [hf2.kids _ hlt (by omega),hk',e0]
        ·rw [List.getElem?_append_left HO];exact hx
        ·rw [Bk.fY,if_pos rfl]
        ·intro e;rw [e] at g6;exact his g6
        ·rw [hl,← f2,hx2.2,← g5,g6]
         exact congrArg (fun t=>some (s,ln,t)) (List.map_congr_left fun k hkm=>by
          obtain ⟨y,hy,hyp⟩:=bU hkm;have:=h.ord _ _ _ hy hyp;exact (hf2.tree k (List.getElem?_eq_some_iff.1 hy).1 (fun a=>by have:=xq h.ord a;omega)).symm)
        ·rw [hck]
         exact List.map_congr_left fun k hkm=>by
          obtain ⟨y,hy,hyp⟩:=bU (by rw [hk',e0];simp [hkm]:k∈kids st.ns (num st.opn.reverse));exact (hf2.tree k (List.getElem?_eq_some_iff.1 hy).1 (fun a=>mF (hk'.trans e0) k hkm (CR h.ord hy hyp hz Wl a (.refl _)))).symm
       ·show D8 _ (num (st.opn++[(⟨st.ns.length,some n⟩:ki)]).reverse) _ _
        rw [mc];refine uF ?_ _ _;show kids _ st.ns.length=_;rw [Bk.fY,if_neg (by intro e;have:=Option.some.inj e;omega),List.append_nil];exact Bk.ur (Bk.uO h.ord) (Nat.le_refl _)
     ·cases hlo
def G7:List Cn→List ki→Prop
 | [],[]=>True
 | d::ds,b::bs=>(d.kind=1∧b.col=none∨d.kind=3∧b.col=some d.col)∧G7 ds bs
 | _,_=>False
theorem xD:∀ {ds:List Cn}{bs:List ki}{d:Cn}{b:ki},G7 ds bs→(d.kind=1∧b.col=none∨d.kind=3∧b.col=some d.col)→G7 (ds++[d]) (bs++[b])
 | [],[],_,_,_,h=>⟨h,trivial⟩
 | [],_::_,_,_,h,_=>by cases h
 | _::_,[],_,_,h,_=>by cases h
 | _::_,_::_,_,_,h,h2=>⟨h.1,xD h.2 h2⟩
theorem zK:∀ {ds:List Cn}{bs:List ki},G7 ds bs→∀ s,take ds s=Bk.take bs s
 | [],[],_,_=>rfl
 | [],_::_,h,_=>by cases h
 | _::_,[],h,_=>by cases h
 | d::ds,b::bs,h,s=>by
  have ih:=zK h.2;rw [take,Bk.take];rcases h.1 with ⟨h1,h2⟩ | ⟨h1,h2⟩
  ·rw [h2]
   unfold Cn.take;rw [if_pos h1];cases Lf.quote s with
   | none=>rfl
   | some q=>simp only [ih]
  ·rw [h2]
   unfold Cn.take;rw [if_neg (by omega),if_pos h1]
   by_cases he:emp s=true
   ·simp only [he,if_true,ih]
   ·by_cases hc:cl s<d.col
    ·simp only [he,hc,if_true];rfl
    ·simp only [he,hc,if_false,ih];rfl
theorem EH {ns:List Nd}:∀ {bs:List ki}{row:List Cn},Up ns bs row→∃ c0 tl,row.reverse=c0::tl∧c0.kind=0∧G7 tl bs.reverse
 | [],[],h=>by cases h
 | [],[c],h=>⟨c,[],rfl,h.1,trivial⟩
 | [],_::_::_,h=>by cases h
 | _::_,[],h=>by cases h
 | _::_,[_],h=>by cases h
 | b::bs,d::c::o,h=>by
  obtain ⟨c0,tl,e,h0,hb⟩:=EH h.2.2.2;refine ⟨c0,tl++[d],?_,h0,?_⟩
  ·rw [List.reverse_cons,e];rfl
  ·rw [List.reverse_cons];exact xD hb h.2.1
theorem WK {ns:List Nd}{opn:List ki}{row:List Cn}(h:Up ns opn.reverse row) (s:List UInt8):take row.reverse s=((Bk.take opn s).1+1,(Bk.take opn s).2):=by
 obtain ⟨c0,tl,e,h0,hb⟩:=EH h;rw [List.reverse_reverse] at hb;rw [e,take];unfold Cn.take;rw [if_neg (by omega),if_neg (by omega)];simp only [zK hb]
theorem mY:∀ (l:List ki) (s:List UInt8),(Bk.take l s).1≤l.length
 | [],_=>Nat.le_refl _
 | b::r,s=>by
  unfold Bk.take;cases b.col with
  | none =>
   cases Lf.quote s with
   | none=>simp
   | some q=>have:=mY r q;simp only [List.length_cons];omega
  | some n =>
   simp only
   split
   ·have:=mY r s;simp only [List.length_cons];omega
   ·split
    ·simp
    ·have:=mY r (strip n s);simp only [List.length_cons];omega
theorem Vk {st:St}(hp:st.para=none) (hf:st.fence=none):Bk.shut st.opn.length st=st:=by
 unfold Bk.shut;rw [List.take_length];cases st;simp at hp hf ⊢;exact ⟨hp.symm,hf.symm⟩
theorem rN {st:St}{r:Rd}(h:tq st r):aI (st.opn.length+1) r=r:=by
 obtain ⟨c,o,hr,hu,_⟩:=h.tip;have hlen:=tO hu;rw [List.length_reverse] at hlen;have hl:=h.leaf;have hcl:ax r=r:=by
  unfold ax;rw [hl,if_neg (by simp [bB]),if_neg (by simp [bB])];cases r;simp at hl ⊢;exact hl.symm
 unfold aI;rw [hcl,hr,hlen,Nat.sub_self];cases r;simp at hr ⊢;exact hr.symm
theorem FI (op:Option (UInt8×Nat)) (st:St):(Bk.push op st).opn.length=st.opn.length+1∧(Bk.push op st).line=st.line:=by
 cases op with
 | none=>exact ⟨by simp [Bk.push,Bk.quote],rfl⟩
 | some q=>obtain ⟨c,n⟩:=q;simp only [Bk.push,Bk.item];split<;>simp
theorem x4:∀ (m:Nat) {st:St}{r:Rd}(s:List UInt8),tq st r→∃ r',begin st.line m (st.opn.length+1) r s=(r',(Bk.grow m st s).1.opn.length+1,(Bk.grow m st s).2)∧tq (Bk.grow m st s).1 r'∧(Bk.grow m st s).1.line=st.line
 | 0,_,r,_,h=>⟨r,rfl,h,rfl⟩
 | m+1,st,r,s,h=>by
  rw [begin,Bk.grow];cases ho:Bk.opener s with
  | none=>exact ⟨r,rfl,h,rfl⟩
  | some oq =>
   obtain ⟨op,q⟩:=oq;obtain ⟨hl,hl2⟩:=FI op st;simp only;rw [rN h];obtain ⟨r',e,h1,h2⟩:=x4 m q (By h op);rw [hl2,hl] at e;exact ⟨r',e,h1,h2.trans hl2⟩
theorem Bj {i:Nat}{st:St}{r:Rd}(s:List UInt8) {k:Nat}{began:Bool}(hi:st.line=i)
  (hb:tq (Bk.shut k st) (aI (k+1) r))
  (Q2:began=true→st.para=none) (aaC:st.para=none→r.leaf.kind≠4)
  (oN:∀ p,st.para=some p→began=false→zR (i+1) { st with ns:=Bk.bp st.ns p (((st.ns[p]?.map (·.text)).getD [])++10::trim s) } { r with leaf:={ r.leaf with lines:=r.leaf.lines++[trim s] } }∧r.leaf.kind=4) :
  zR (i+1) (Bk.leaf s k began st) (eW i (k+1) s r):=by
 have wO:(Bk.shut k st).line=i:=hi;have adL:(Bk.shut k st).opn=st.opn.take k:=rfl;unfold Bk.leaf eW
 by_cases h1:emp s=true
 ·rw [if_pos h1,if_pos h1];exact hb.sim _
 rw [if_neg h1,if_neg h1];cases Lf.eM s with
 | some p =>
  obtain ⟨n,t⟩:=p;have:=FT hb (kd:=5) n t [] (by omega);rw [wO] at this;exact this.sim _
 | none =>
  simp only
  by_cases h2:Lf.uh s=true
  ·rw [if_pos h2,if_pos h2]
   have:=FT hb (kd:=6) 0 [] [] (by omega);rw [wO] at this;exact this.sim _
  rw [if_neg h2,if_neg h2];cases hbg:Fn.cu s with
  | some f =>
   simp only;obtain ⟨c,o,hr,ho,hu,ht⟩:=Fb hb 7 0 [] f.info;have hlen:=tO hu;rw [List.length_reverse,adL] at hlen;refine ⟨ho,⟨c,o,some st.ns.length,hr,hu,ht,.inr (.inr ⟨rfl,rfl,rfl,st.ns.length,_,rfl,rfl,iX _ _,rfl,rfl,rfl,rfl,wO⟩)⟩,hb.shut,?_,fun _=>rfl,fun _ _=>?_⟩
   ·show (if (st.opn.take k).isEmpty=true then st.places++[⟨st.line,f,st.line+1,0,false⟩] else st.places)=(aI (k+1) r).places++_
    have hp:st.places=(aI (k+1) r).places:=hb.places;show _=_++if 7=7∧(aI (k+1) r).row.length=1 then _ else _;rw [hr,hlen,hp,hi];cases ht9:st.opn.take k with
    | nil=>simp
    | cons a b=>simp
   ·simp
  | none =>
   simp only;have hpar:zR (i+1) { Bk.add 4 0 (trim s) [] 0 (Bk.shut k st) with para:=some st.ns.length } { aI (k+1) r with leaf:=⟨4,i,[trim s],qP,false⟩ }:=by
    obtain ⟨c,o,hr,ho,hu,ht⟩:=Fb hb 4 0 (trim s) [];refine ⟨ho,⟨c,o,some st.ns.length,hr,hu,ht,.inr (.inl ⟨rfl,rfl,by simp,st.ns.length,_,rfl,rfl,iX _ _,rfl,rfl,rfl,rfl,wO⟩)⟩,hb.shut,?_,fun h=>(by cases h),fun h=>by cases h⟩;have hp:st.places=(aI (k+1) r).places:=hb.places;show st.places=(aI (k+1) r).places++_;rw [hp];simp
   cases hpa:st.para with
   | none =>
    rw [if_neg (aaC hpa)];exact hpar
   | some p =>
    cases began with
    | true=>rw [Q2 rfl] at hpa;cases hpa
    | false =>
     obtain ⟨h5,h6⟩:=oN p hpa rfl;rw [if_pos h6];rw [hpa] at h5;exact h5
theorem So {i:Nat}{st:St}{r:Rd}(h:zR i st r) (hi:st.line=i) (s:List UInt8):zR (i+1) (Bk.text s st) (fJ i s r):=by
 obtain ⟨c,o,q,hr,hu,ht,hl⟩:=h.tip;have hlen:=tO hu;rw [List.length_reverse] at hlen;have htk:=WK (by rw [← hr] at hu;exact hu:Up st.ns st.opn.reverse r.row) s;have htl:=(mY st.opn s)
 obtain ⟨K,hK⟩:∃ K,(Bk.take st.opn s).1=K:=⟨_,rfl⟩
 obtain ⟨R,hR⟩:∃ R,(Bk.take st.opn s).2=R:=⟨_,rfl⟩
 unfold fJ Bk.text;rw [htk,hK,hR];rw [hK] at htl;simp only;have hrl:r.row.length=st.opn.length+1:=by rw [hr];exact hlen
 rw [hrl];have oN:∀ (p:Nat) (x:Nd) (t:List UInt8) (f':Of),q=some p→st.ns[p]? = some x→Kz { st with ns:=Bk.bp st.ns p t } f' (some p)→f'.kind=r.leaf.kind→f'.line=r.leaf.line→f'.op=r.leaf.op→f'.ended=r.leaf.ended→f'.lines.length=r.leaf.lines.length+1→zR (i+1) { st with ns:=Bk.bp st.ns p t } { r with leaf:=f' }:=by
  intro p x t f' hq hx hlf e1 e2 e3 e5 e4;subst hq;obtain ⟨ks,hk,hc,hp⟩:=ht;have hf:=Wx h.ord p t;obtain ⟨y,hy,hyp⟩:=bU (by rw [hk];simp:p∈kids st.ns (num st.opn.reverse));have hlt:=h.ord _ _ _ hy hyp;have ha:uf st.ns (num st.opn.reverse) p:=pG hy hyp (.refl _);have hnl:=Dq (yF hu);refine ⟨sj h.ord p t,⟨c,o,some p,hr,pI h.ord hf hu ha (hf.node (num st.opn.reverse) hnl (by omega)),⟨ks,?_,jC h.ord hf (.refl _) (by simpa using hk) hc,fun p' hp'=>?_⟩,hlf⟩,h.shut,?_,fun h1=>e5.trans (h.going (e1▸h1)),?_⟩
  ·show kids (Bk.bp st.ns p t) _=_
   rw [Bk.uT];exact hk
  ·show kids (Bk.bp st.ns p t) _=_
   rw [Bk.uT];exact hp p' hp'
  ·show st.places=_
   rw [h.places];simp only [e1,e2,e3]
  ·intro h1 h2
   have:=h.time (e1▸h1) h2;show i+1=f'.line+1+f'.lines.length;omega
 have hset:∀ (p:Nat) (x:Nd) (t:List UInt8),st.ns[p]? = some x→(Bk.bp st.ns p t)[p]? = some { x with text:=t }:=by
  intro p x t hx;simp [Bk.bp,hx]
 have mD:(¬ (r.leaf.kind=7∧K=st.opn.length))→zR (i+1) (Bk.below R K st) (eW i (begin i (41-(K+1)) (K+1) r R).2.1 (begin i (41-(K+1)) (K+1) r R).2.2 (begin i (41-(K+1)) (K+1) r R).1):=by
  intro hn;have hnp:¬ (r.leaf.kind=7∧r.row.length=1):=fun e=>hn ⟨e.1,by have:=e.2;omega⟩;have hb:=MH h htl hnp;have hnone:Bk.leaf R K false st=Bk.leaf R K false st:=rfl;have jm:zR (i+1) (Bk.leaf R K false st) (eW i (K+1) R r):=by
   refine Bj R hi hb (fun e=>by cases e) (fun e=>?_) (fun p hp _=>?_)
   ·rcases hl with ⟨h1,_⟩ | ⟨h1,_,_,p,x,_,h5,_⟩ | ⟨h1,_⟩
    ·omega
    ·rw [e] at h5;cases h5
    ·omega
   ·rcases hl with ⟨_,h1,_⟩ | ⟨h1,h2,h3,p',x,hq,h5,hx,g1,g2,g3,g4,g5⟩ | ⟨_,h1,_⟩
    ·rw [h1] at hp;cases hp
    ·rw [h5] at hp;cases hp
     refine ⟨?_,h1⟩;rw [hx];exact oN p x _ _ hq hx (.inr (.inl ⟨h1,h2,by simp,p,_,rfl,h5,hset p x _ hx,g1,g2,by rw [FE _ _ h3,← g3];rfl,g4,g5⟩)) rfl rfl rfl rfl (by simp)
    ·rw [h1] at hp;cases hp
  unfold Bk.below
  by_cases hk4:K<40
  ·rw [if_pos hk4,show 41-(K+1)=(39-K)+1 from by omega,begin]
   cases ho:Bk.opener R with
   | none=>exact jm
   | some oq =>
    obtain ⟨op,qq⟩:=oq;simp only;have vh:=By hb op;obtain ⟨hl1,hl2⟩:=FI op (Bk.shut K st);have qm:(Bk.shut K st).opn.length=K:=by show (st.opn.take K).length=K;rw [List.length_take];omega
    have hsn:(Bk.shut K st).line=i:=hi;rw [qm] at hl1;rw [hsn] at hl2 vh;obtain ⟨r',e,h1,h2⟩:=x4 (39-K) qq vh;rw [hl2,hl1] at e;rw [e];simp only;obtain ⟨st',adI⟩:∃ st',(Bk.grow (39-K) (Bk.push op (Bk.shut K st)) qq).1=st':=⟨_,rfl⟩
    rw [adI] at h1 h2 ⊢;have hb2:tq (Bk.shut st'.opn.length st') (aI (st'.opn.length+1) r'):=by rw [rN h1,Vk h1.para h1.fence];exact h1
    refine Bj _ (h2.trans hl2) hb2 (fun _=>h1.para) (fun _=>by rw [h1.leaf];simp [bB]) (fun p hp _=>by rw [h1.para] at hp;cases hp)
  ·rw [if_neg hk4,show 41-(K+1)=0 from by omega]
   exact jm
 rcases hl with ⟨h1,h2,h3,hq⟩ | ⟨h1,h2,h3,p,x,hq,h5,hx,g1,g2,g3,g4,g5⟩ | ⟨h1,h2,h4,p,x,hq,h5,hx,g1,g2,g3,g4,g5⟩
 ·rw [h3,if_neg (by omega)]
  exact mD (by omega)
 ·rw [h2,if_neg (by omega)]
  exact mD (by omega)
 ·rw [h5]
  simp only
  by_cases hka:K=st.opn.length
  ·rw [if_pos hka,if_pos ⟨h1,by omega⟩]
   unfold Bk.fenced gw
   by_cases he:Fn.ends st.f.c st.f.n R=true
   ·have he':Fn.ends r.leaf.op.c r.leaf.op.n R=true:=by rw [← h4];exact he
    rw [if_pos he,if_pos he'];obtain ⟨c',e1,XV,ht'⟩:=kU (r:={ r with leaf:={ r.leaf with ended:=true } }) (q:=some p) h.ord hr hu (hq▸ht) (.inr (.inr ⟨h1,h2,h4,p,x,rfl,h5,hx,g1,g2,g3,g4,g5⟩));have hpl:(ax { r with leaf:={ r.leaf with ended:=true } }).places=if r.row.length=1 then r.places++[({ r.leaf with ended:=true }:Of).place] else r.places:=by
     unfold ax;rw [if_neg (by simp only;omega),if_pos h1]
    have hbase:tq { st with fence:=none,places:=if st.opn.isEmpty=true then Bk.iK st.line true st.places else st.places } (ax { r with leaf:={ r.leaf with ended:=true } }):=by
     refine ⟨h.ord,⟨c',o,e1,XV,ht'⟩,ou _,h2,rfl,?_,?_⟩
     ·rw [hpl]
      split
      ·intro y hy
       rcases List.mem_append.1 hy with hy | hy
       ·exact h.shut y hy
       ·rw [List.mem_singleton.1 hy];rfl
      ·exact h.shut
     ·rw [hpl]
      show (if st.opn.isEmpty=true then Bk.iK st.line true st.places else st.places)=_;have hpp:=h.places
      by_cases h0:st.opn.length=0
      ·have ht:=h.time h1 (by omega)
       rw [if_pos (by simp [List.eq_nil_of_length_eq_zero h0]),if_pos (by omega),hpp,if_pos ⟨h1,by omega⟩];unfold Bk.iK;rw [List.getLast?_concat];simp only [List.dropLast_concat];rw [hi,ht];rfl
      ·rw [if_neg (by simp;intro e;rw [e] at h0;exact h0 rfl),if_neg (by omega),hpp,if_neg (by omega),List.append_nil]
    exact hbase.sim _
   ·have he':¬ Fn.ends r.leaf.op.c r.leaf.op.n R=true:=by rw [← h4];exact he
    rw [if_neg he,if_neg he',hx];refine oN p x _ _ hq hx (.inr (.inr ⟨h1,h2,h4,p,_,rfl,h5,hset p x _ hx,g1,g2,?_,g4,g5⟩)) rfl rfl rfl rfl (by simp);show ((some x).map (·.text)).getD []++strip st.f.ind R++[10]=Ln.join (r.leaf.lines++[strip r.leaf.op.ind R]) [10];rw [Ln.join_append,← g3,h4];simp [Ln.join]
  ·rw [if_neg hka,if_neg (by omega)]
   exact mD (fun e=>hka e.2)
theorem AZ:∀ (ls:List (List UInt8)) {i:Nat}{st:St}{r:Rd},zR i st r→zR (i+ls.length) (Bk.lines ls i st) (lines ls i r)
 | [],_,_,_,h=>h
 | s::t,i,st,r,h=>by
  have h1:zR i { st with line:=i } r:=⟨h.ord,h.tip,h.shut,h.places,h.going,h.time⟩
  have:=AZ t (So h1 rfl s);rw [Nat.add_assoc,Nat.add_comm 1] at this;exact this
theorem tJ:zR 0 Bk.start start:=by
 have ho:ordered Bk.start.ns:=fun j x p hj hp=>by
  have hj0:j<1:=(List.getElem?_eq_some_iff.1 hj).1;rw [show j=0 from by omega] at hj;cases hj;cases hp
 refine ⟨ho,⟨_,[],none,rfl,⟨rfl,_,rfl,rfl,rfl,rfl,rfl,rfl⟩,⟨[],rfl,⟨rfl,fun ks' L x e=>by simp at e⟩,fun _ h=>by cases h⟩,.inl ⟨rfl,rfl,rfl,rfl⟩⟩,fun p hp=>(by cases hp),rfl,fun h=>(by cases h),fun h=>(by cases h)⟩
theorem WS (ls:List (List UInt8)):zR ls.length (Bk.run ls) (lines ls 0 start):=by
 have:=AZ ls tJ;rwa [Nat.zero_add] at this
theorem Nx (ls:List (List UInt8)):tree ls=cN (Bk.run ls).ns 0:=by
 have h:=WS ls;obtain ⟨c,o,q,hr,hu,ht,hl⟩:=h.tip;obtain ⟨c',hr',XV,ht'⟩:=kU h.ord hr hu ht hl;have hlen:=tO XV;rw [List.length_reverse] at hlen;obtain ⟨c2,o2,e2,hu2,ZZ⟩:=Dt h.ord (Bk.run ls).opn.length (by simp) XV ht';rw [List.drop_eq_nil_of_le (by simp)] at hu2 ZZ;have hrow:(read ls).row=c2::o2:=by
  show nW ((ax _).row.length-1) (ax _).row=_;rw [hr',hlen];exact e2
 unfold tree;rw [hrow];exact (G6 h.ord ZZ (yF hu2)).symm
end Go.Proofs.YtddkjkockbcamaaGreatDoor.Pb
