/- The program's Open reads a block as P4.2 says, or refuses -/
import Derived.Test.YtipejjgodnnkaaaGreatDoorPm6
namespace Go.Proofs.YtipejjgodnnkaaaGreatDoor
open Go Go.RowKit Go.Proofs
set_option maxHeartbeats 4000000
set_option maxRecDepth 10000
theorem q09 {fn:Func}{p a b:Tmp}{ty:TypeId}{ad:Addr}{v:Value}{P:Program}{w:World}{tmps:Array Value}(h:fn.results=#[.cell p ty,.tmp a,.tmp b])(hp:tmps.getD p undef=.pointer (some ad))(hl:(loadVar ty ad).run P w=.ok v w) :
  (results fn tmps).run P w=.ok (.tuple #[v,tmps.getD a undef,tmps.getD b undef]) w:=by
 have e:(results fn tmps).run P w=((asAddr (tmps.getD p undef)).run P w).andThen fun ad w₁=>((loadVar ty ad).run P w₁).andThen fun v w₂=>.ok (.tuple #[v,tmps.getD a undef,tmps.getD b undef]) w₂:=by
  simp only[results,h]
  simp[Sem.run_bind,Result.andThen]
 rw[e,hp]
 simp[asAddr,hl]
theorem q0w {w:World}{b:Nat}{h:Hd}(hr:w.rangeAt b 0 h.vs):(loadVar 118 ⟨b,0,none⟩).run Tryz.prog w=.ok h.v w:=
 run_loadVar_mid w b 0 118 h.vs _ hr Tryz.underlying118 rfl (by kernel_rfl)
theorem q2c {w:World}{A:Option Addr}{n c:Nat}{l:List UInt8}(h:Sl w A n c l):(convert 30 9 (.slice A n c)).run Tryz.prog w=.ok (.string ⟨l.toArray⟩) w:=
 q59 _ _ _ T22 Tryz.underlying5 Tryz.underlying9 h
def okB (l:List UInt8):Bool:=decide (l.length=256∧l.take 4=sumB l∧(hdOf ((l.drop 4).take 11)).ok=true∧allZ ((l.drop 15).take 5)=true)
def opH (l:List UInt8):Hd:=if okB l=true then hdOf ((l.drop 4).take 11) else Hd.zero
def opB (l:List UInt8):List UInt8:=if okB l=true then l.drop 20 else []
def opE (l:List UInt8):Int:=if okB l=true then 0 else 3
theorem q2o {ops:Array Oper}{rest:List Oper}{o:Oper}{a:Act}{w:World}{Q:Exit→Act→World→Prop}(hg:o.guard=none)(x:Operand)(hop:o.op=Op.load 118 x)
  (b:Nat) (hx:a.eval x=.pointer (some ⟨b,0,none⟩)) (h:Hd) (H:w.rangeAt b 0 h.vs) (hK:wpList Tryz.prog ops Q rest (a.put o.dst h.v) w):wpList Tryz.prog ops Q (o::rest) a w:=
 wpList_load_mid hg _ x hop b 0 hx h.vs _ H Tryz.underlying118 rfl (by kernel_rfl) hK
theorem q3x {w w':World}{b:Nat}{vs:List Value}(h:w.rangeAt b 0 vs){B:Nat}(hb:Below B w w')(hB:b<B):w'.rangeAt b 0 vs:=fun j v hv=>(hb.cell (p:=⟨b,0+j,none⟩) hB).trans (h j v hv)
theorem qsb (n:Nat):(zrs n).length=n:=List.length_replicate
theorem qja (L C:List UInt8)(h:L.length=C.length):splice L 0 C=C:=by
 unfold splice
 rw[List.take_zero,List.nil_append,List.drop_of_length_le (by omega),List.append_nil]
theorem after6 {w w5 w6:World}{H:Hd}{o:Obj}(hr:w6.rangeAt w5.heap.size 0 H.vs)(hb:∀B,B≤w5.heap.size→Below B (w5.alloc o) w6)(HZ:HB w5 w.heap.size Hd.zero)(hB:Below w.heap.size w w5)(hz:w.heap.size<w5.heap.size) :
  w6.rangeAt w5.heap.size 0 H.vs∧Below w.heap.size w w6∧HB w6 w.heap.size Hd.zero∧w5.heap.size<w6.heap.size:=by
 have h1:Below w5.heap.size w5 w6:=((Below.refl _ _).alloc (Nat.le_refl _) o).trans (hb _ (Nat.le_refl _))
 have h2:=(hb _ (Nat.le_refl _)).size
 rw[World.size_alloc] at h2
 exact⟨hr,hB.trans (h1.mono (by omega)),HZ.below h1 hz,by omega⟩
theorem cuts {w:World}{ad:Addr}{c:Nat}{l:List UInt8}(hs:Sl w (some ad) 256 c l):Sl w (some (ad.add 15)) 5 (c-15) ((l.drop 15).take 5)∧Sl w (some (ad.add 20)) 236 (c-20) (l.drop 20):=by
 have hc:=hs.cap
 have h1:=(hs.drop (k:=15) (by omega)).take (k:=5) (by omega)
 have h2:=hs.drop (k:=20) (by omega)
 rw[if_neg (by omega)] at h1 h2
 exact⟨h1,h2⟩
def q1k (A:Option Addr)(n c:Nat)(l:List UInt8)(w:World):Prop:=
  Calls Tryz.prog 132 #[.slice A n c] w fun e w'=>
   ∃A' n' c',e=.returned (.tuple #[(opH l).v,.slice A' n' c',.int .i64 (opE l)])∧Own w' w.heap.size 5 A' n' c' (opB l)∧Below w.heap.size w w'
theorem q4q {l:List UInt8}(h:okB l=false):opH l=Hd.zero∧opB l=[]∧opE l=3:=by
 unfold opH opB opE
 rw[h]
 exact⟨rfl,rfl,rfl⟩
theorem q2f {l:List UInt8}(h:okB l=true):opH l=hdOf ((l.drop 4).take 11)∧opB l=l.drop 20∧opE l=0:=by
 unfold opH opB opE
 rw[h]
 exact⟨rfl,rfl,rfl⟩
theorem qsc (ad:Addr)(c:Nat)(l:List UInt8)(w:World)(hs:Sl w (some ad) 256 c l)(ht:Tab w)(heq:l.take 4=sumB l):q1k (some ad) 256 c l w:=by
 unfold q1k
 have hlen:=hs.len
 have hcap:=hs.cap
 have hm:=hs.max
 unfold maxLen at hm
 have HZ:=HB.zero w 118
 have hb0:Below w.heap.size w (w.alloc (.cells #[.int .i64 0,.int .i64 0,.int .i64 0,.int .i64 0,.int .i64 0] 118)):=blA
 have hz0:w.heap.size<(w.alloc (.cells #[.int .i64 0,.int .i64 0,.int .i64 0,.int .i64 0,.int .i64 0] 118)).heap.size:=by simp
 obtain⟨H,hH⟩:∃H,hdOf ((l.drop 4).take 11)=H:=⟨_,rfl⟩
 have hS0:=congrArg (fun x:List UInt8=>(⟨x.toArray⟩:ByteArray)) heq
 obtain⟨S1,hS⟩:∃S1,(⟨(sumB l).toArray⟩:ByteArray)=S1:=⟨_,rfl⟩
 have hS2:(⟨(l.take 4).toArray⟩:ByteArray)=S1:=hS0.trans hS
 clear hS0
 go_enter Tryz.func132,Tryz.ntmps132
 go_wp2
 generalize (w.alloc (.cells #[.int .i64 0,.int .i64 0,.int .i64 0,.int .i64 0,.int .i64 0] 118))=w1 at HZ hb0 hz0 ⊢
 have hs1:=hs.below hb0
 have ht1:=ht.below hb0 ht.1
 have k1:=q2c (hs1.take (k:=4) (by omega)).drew
 rw[hS2] at k1
 go_region_with (first
  |(go_at_call 149;refine (q72 _ 256 c l _ hs1.drew (by omega) ht1).mono ?_;rintro e w3 ⟨A3,n3,c3,rfl,own3,hb3⟩;have hb3':Below w1.heap.size w1 w3:=Below.trans (Below.refl _ w1).drew hb3;have k2:=q2c ((hs1.below hb3').take (k:=4) (by omega));have k3:=q2c own3.sl;rw[hS2] at k2;rw[hS] at k3)
  |fail)
 all_goals
  have HZ3:=HZ.below hb3' hz0
  have hz3:=hb3'.size
  have hs3:=hs1.below hb3'
  have hB3:=hb0.trans (hb3'.mono hb0.size)
  have hs4:=(hs3.drop (k:=4) (by omega)).take (k:=11) (by omega)
  rw[if_neg (show ¬c=4 by omega)] at hs4
  clear k1 k2 k3 own3 hb3 hs1 HZ
  cases hok:H.ok
  ·have hno:okB l=false:=decide_eq_false (fun h=>by have:=h.2.2.1;rw[hH,hok] at this;cases this)
   go_wp2_with (first
    |(go_at_call 178;refine (q4p _ (c-4) _ _ hs4).mono ?_;rw[hH];rintro e w5 ⟨rfl,hb5⟩;have HZ5:=HZ3.below hb5 (by omega);have hz5:=hb5.size)
    |(refine q08 rfl (.tmp 5) (.tmp 22) rfl w5.heap.size rfl H _ rfl (HB.zero w5 _) (by simp) ?_;intro w6 hr6 hb6 _;obtain⟨hr6',hB6,HZ6,hz6⟩:=after6 hr6 hb6 HZ5 (hB3.trans (hb5.mono hB3.size)) (by omega))
    |(refine q2o rfl (.tmp 5) rfl w5.heap.size rfl H (by first|exact hr6'|assumption) ?_)
    |(go_at_call 147;refine (q3h H _).mono ?_;rw[hok];rintro e w7 ⟨rfl,hb7⟩;have HZ7:=HZ6.below hb7 (by omega);have hB7:=hB6.trans (hb7.mono hB6.size);have hr7:=q3x hr6' hb7 hz6;have hz7:=hb7.size;have hs7:=hs.below hB7;obtain⟨hs15,hs20⟩:=cuts hs7)
    |(refine q08 rfl (.tmp 2) (.tmp 32) rfl w.heap.size rfl Hd.zero _ rfl HZ7 (by omega) ?_;intro wz hrz hbz Tz)
    |fail)
   refine bodyPost_ret (q09 Tryz.results132 rfl (q0w hrz)) rfl ?_
   obtain⟨h1,h2,h3⟩:=q4q (l:=l) hno
   rw[h1,h2,h3]
   exact⟨_,_,_,rfl,q1h _ _ _,hB7.trans (hbz _ (Nat.le_refl _))⟩
  ·cases hzz:allZ ((l.drop 15).take 5)
   ·have hno:okB l=false:=decide_eq_false (fun h=>by have:=h.2.2.2;rw[hzz] at this;cases this)
    go_wp2_with (first
     |(go_at_call 178;refine (q4p _ (c-4) _ _ hs4).mono ?_;rw[hH];rintro e w5 ⟨rfl,hb5⟩;have HZ5:=HZ3.below hb5 (by omega);have hz5:=hb5.size)
     |(refine q08 rfl (.tmp 5) (.tmp 22) rfl w5.heap.size rfl H _ rfl (HB.zero w5 _) (by simp) ?_;intro w6 hr6 hb6 _;obtain⟨hr6',hB6,HZ6,hz6⟩:=after6 hr6 hb6 HZ5 (hB3.trans (hb5.mono hB3.size)) (by omega))
     |(refine q2o rfl (.tmp 5) rfl w5.heap.size rfl H (by first|exact hr6'|assumption) ?_)
     |(go_at_call 147;refine (q3h H _).mono ?_;rw[hok];rintro e w7 ⟨rfl,hb7⟩;have HZ7:=HZ6.below hb7 (by omega);have hB7:=hB6.trans (hb7.mono hB6.size);have hr7:=q3x hr6' hb7 hz6;have hz7:=hb7.size;have hs7:=hs.below hB7;obtain⟨hs15,hs20⟩:=cuts hs7)
     |(go_at_call 179;refine (q9e _ 5 (c-15) _ w7 hs15).mono ?_;rw[hzz];rintro e w8 ⟨rfl,rfl⟩)
     |(refine q08 rfl (.tmp 2) (.tmp 32) rfl w.heap.size rfl Hd.zero _ rfl HZ7 (by omega) ?_;intro wz hrz hbz Tz)
     |fail)
    refine bodyPost_ret (q09 Tryz.results132 rfl (q0w hrz)) rfl ?_
    obtain⟨h1,h2,h3⟩:=q4q (l:=l) hno
    rw[h1,h2,h3]
    exact⟨_,_,_,rfl,q1h _ _ _,hB7.trans (hbz _ (Nat.le_refl _))⟩
   ·have hyes:okB l=true:=decide_eq_true ⟨hlen,heq,by rw[hH];exact hok,hzz⟩
    go_wp2_with (first
     |(go_at_call 178;refine (q4p _ (c-4) _ _ hs4).mono ?_;rw[hH];rintro e w5 ⟨rfl,hb5⟩;have HZ5:=HZ3.below hb5 (by omega);have hz5:=hb5.size)
     |(refine q08 rfl (.tmp 5) (.tmp 22) rfl w5.heap.size rfl H _ rfl (HB.zero w5 _) (by simp) ?_;intro w6 hr6 hb6 _;obtain⟨hr6',hB6,HZ6,hz6⟩:=after6 hr6 hb6 HZ5 (hB3.trans (hb5.mono hB3.size)) (by omega))
     |(refine q2o rfl (.tmp 5) rfl w5.heap.size rfl H (by first|exact hr6'|assumption) ?_)
     |(go_at_call 147;refine (q3h H _).mono ?_;rw[hok];rintro e w7 ⟨rfl,hb7⟩;have HZ7:=HZ6.below hb7 (by omega);have hB7:=hB6.trans (hb7.mono hB6.size);have hr7:=q3x hr6' hb7 hz6;have hz7:=hb7.size;have hs7:=hs.below hB7;obtain⟨hs15,hs20⟩:=cuts hs7)
     |(go_at_call 179;refine (q9e _ 5 (c-15) _ w7 hs15).mono ?_;rw[hzz];rintro e w8 ⟨rfl,rfl⟩)
     |(at_make;refine q69 _ T22 rfl _ _ rfl _ _ 236 rfl rfl (by omega) ?_;intro w9 own9 hb9;have hs9:=Sl.below hs20 hb9)
     |((with_reducible show wpList _ _ _ _ _ _);refine q9d T22 rfl (.tmp 34) (.tmp 36) rfl w7.heap.size w7.heap.size 236 _ own9 0 236 236 rfl _ 236 (c-20) _ rfl hs9 (by omega) (by omega) ?_;intro w10 own10 hb10;have hb710:=hb9.trans hb10;have HZ10:=HZ7.below hb710 (by omega);have hr10:=q3x hr7 hb710 (by omega);have hz10:=hb710.size)
     |(refine q08 rfl (.tmp 2) (.tmp 38) rfl w.heap.size rfl H _ rfl HZ10 (by omega) ?_;intro wz hrz hbz Tz)
     |fail)
    refine bodyPost_ret (q09 Tryz.results132 rfl (q0w hrz)) rfl ?_
    obtain⟨h1,h2,h3⟩:=q2f (l:=l) hyes
    rw[h1,h2,h3,hH]
    rw[qja _ _ (by rw[qsb,List.length_drop,hlen])] at own10
    exact⟨_,_,_,rfl,(own10.turn fun g hg hl=>Tz.block g hl (by show ¬g=w.heap.size;omega)).less hB7.size,hB7.trans ((hb710.mono hB7.size).trans (hbz _ (Nat.le_refl _)))⟩
theorem qsd (ad:Addr)(c:Nat)(l:List UInt8)(w:World)(hs:Sl w (some ad) 256 c l)(ht:Tab w)(heq:¬l.take 4=sumB l):q1k (some ad) 256 c l w:=by
 unfold q1k
 have hlen:=hs.len
 have hcap:=hs.cap
 have hm:=hs.max
 unfold maxLen at hm
 have HZ:=HB.zero w 118
 have hb0:Below w.heap.size w (w.alloc (.cells #[.int .i64 0,.int .i64 0,.int .i64 0,.int .i64 0,.int .i64 0] 118)):=blA
 have hz0:w.heap.size<(w.alloc (.cells #[.int .i64 0,.int .i64 0,.int .i64 0,.int .i64 0,.int .i64 0] 118)).heap.size:=by simp
 have hno:okB l=false:=decide_eq_false (fun h=>heq h.2.1)
 have h1:opH l=Hd.zero:=by unfold opH;rw[if_neg (by rw[hno];simp)]
 have h2:opB l=[]:=by unfold opB;rw[if_neg (by rw[hno];simp)]
 have h3:opE l=3:=by unfold opE;rw[if_neg (by rw[hno];simp)]
 rw[h1,h2,h3]
 have hsne:¬((⟨(l.take 4).toArray⟩:ByteArray)=⟨(sumB l).toArray⟩):=fun h=>heq (by injection h with h;simpa using h)
 have hsb:((⟨(l.take 4).toArray⟩:ByteArray).toList==(⟨(sumB l).toArray⟩:ByteArray).toList)=false:=by rw[ByteArray.toList_eq,ByteArray.toList_eq];simpa using heq
 generalize hS:(⟨(sumB l).toArray⟩:ByteArray)=S1 at hsne hsb
 generalize hS2:(⟨(l.take 4).toArray⟩:ByteArray)=S2 at hsne hsb
 go_enter Tryz.func132,Tryz.ntmps132
 go_wp2
 generalize (w.alloc (.cells #[.int .i64 0,.int .i64 0,.int .i64 0,.int .i64 0,.int .i64 0] 118))=w1 at HZ hb0 hz0 ⊢
 have hs1:=hs.below hb0
 have ht1:=ht.below hb0 ht.1
 have k1:=q2c (hs1.take (k:=4) (by omega)).drew
 rw[hS2] at k1
 go_region_with (first
  |(go_at_call 149;refine (q72 _ 256 c l _ hs1.drew (by omega) ht1).mono ?_;rintro e w3 ⟨A3,n3,c3,rfl,own3,hb3⟩;have hb3':Below w1.heap.size w1 w3:=Below.trans (Below.refl _ w1).drew hb3;have k2:=q2c ((hs1.below hb3').take (k:=4) (by omega));have k3:=q2c own3.sl;rw[hS2] at k2;rw[hS] at k3)
  |fail)
 all_goals
  have HZ3:=HZ.below hb3' hz0
  have hz3:=hb3'.size
  go_wp2_with (first
   |(refine q08 rfl (.tmp 2) (.tmp 19) rfl w.heap.size rfl Hd.zero _ rfl (by exact HZ3) (by show w.heap.size<w3.heap.size;omega) ?_;intro w4 hr4 hb4 _)
   |fail)
  refine bodyPost_ret (q09 Tryz.results132 rfl (q0w hr4)) rfl ?_
  exact⟨_,_,_,rfl,q1h _ _ _,hb0.trans ((hb3'.mono (by omega)).trans (hb4 _ (Nat.le_refl _)))⟩
theorem q3y (A:Option Addr)(n c:Nat)(l:List UInt8)(w:World)(hs:Sl w A n c l)(ht:Tab w):q1k A n c l w:=by
 have hlen:=hs.len
 by_cases hn:n=256
 ·subst hn
  obtain⟨ad,rfl,_⟩:=hs.cell (k:=0) (by omega)
  by_cases heq:l.take 4=sumB l
  ·exact qsc ad c l w hs ht heq
  ·exact qsd ad c l w hs ht heq
 ·unfold q1k
  have hno:okB l=false:=decide_eq_false (fun h=>hn (by omega))
  have h1:opH l=Hd.zero:=by unfold opH;rw[if_neg (by rw[hno];simp)]
  have h2:opB l=[]:=by unfold opB;rw[if_neg (by rw[hno];simp)]
  have h3:opE l=3:=by unfold opE;rw[if_neg (by rw[hno];simp)]
  rw[h1,h2,h3]
  have hn':¬(n:Int)=256:=by omega
  have hdn:decide ((n:Int)=256)=false:=decide_eq_false hn'
  have HZ:=HB.zero w 118
  have hb0:Below w.heap.size w (w.alloc (.cells #[.int .i64 0,.int .i64 0,.int .i64 0,.int .i64 0,.int .i64 0] 118)):=blA
  have hz0:w.heap.size<(w.alloc (.cells #[.int .i64 0,.int .i64 0,.int .i64 0,.int .i64 0,.int .i64 0] 118)).heap.size:=by simp
  go_enter Tryz.func132,Tryz.ntmps132
  go_wp2
  generalize (w.alloc (.cells #[.int .i64 0,.int .i64 0,.int .i64 0,.int .i64 0,.int .i64 0] 118))=w1 at HZ hb0 hz0 ⊢
  go_quiet (fail)
  go_wp2_with (first
   |(refine q08 rfl (.tmp 2) (.tmp 19) rfl w.heap.size rfl Hd.zero _ rfl (by exact HZ) (by exact hz0) ?_;intro w4 hr4 hb4 _)
   |fail)
  refine bodyPost_ret (q09 Tryz.results132 rfl (q0w hr4)) rfl ?_
  exact⟨_,_,_,rfl,q1h _ _ _,(q0s hb0 _).trans (hb4 _ (Nat.le_refl _))⟩
theorem q23 (h:Hd)(w:World) :
  Calls Tryz.prog 123 #[.agg #[.int .i64 h.kind,.int .i64 h.addr,.int .i64 h.count,.int .i64 h.level,.int .i64 h.gen]] w fun e w'=>e=.returned (.bool h.ok)∧Below w.heap.size w w':=by
 obtain⟨b,hb⟩:∃b,h.ok=b:=⟨_,rfl⟩
 rw[hb]
 unfold Hd.ok at hb
 go_enter Tryz.func123,Tryz.ntmps123
 go_wp2
 all_goals
  go_ret
  refine⟨?_,blA⟩
  rw[←hb]
  first
   |exact congrArg (fun x=>Ending.returned (Value.bool x)) (decide_eq_false (by omega)).symm
   |exact congrArg (fun x=>Ending.returned (Value.bool x)) (show decide (h.gen≤1099511627775)=_ from decide_eq_decide.2 (by omega))
def filR (X:List UInt8)(k:Nat):List UInt8:=X++List.replicate k 0
theorem qe5 (l:List UInt8)(k:Nat):filR l k++[0]=filR l (k+1):=by
 unfold filR
 rw[List.replicate_succ',List.append_assoc]
theorem qe6 (l:List UInt8):filR l 0=l:=by simp[filR]
def lenV:Value→Nat
 |.slice _ n _=>n
 |_=>0
theorem q6a (l:List UInt8)(x n:Int)(h1:1≤n)(h2:n≤8):putS l x n=l++dig x n.toNat:=if_pos ⟨h1,h2⟩
theorem own_none (w:World)(base:Nat)(e:TypeId):Own w base e none 0 0 []:=⟨rfl,.inl ⟨rfl,rfl⟩⟩
theorem q2w (h:Hd)(A:Option Addr)(n c:Nat)(l:List UInt8)(w:World)(hs:Sl w A n c l) :
  Calls Tryz.prog 67 #[.agg #[.int .i64 h.kind,.int .i64 h.addr,.int .i64 h.count,.int .i64 h.level,.int .i64 h.gen],.slice A n c] w fun e w'=>
   ∃A' n' c',e=.returned (.tuple #[.slice A' n' c',.int .i64 (sealE h l)])∧Own w' w.heap.size 5 A' n' c' (sealB h l)∧Below w.heap.size w w':=by
 have hlen:=hs.len
 have hcap:=hs.cap
 have hm:=hs.max
 unfold maxLen at hm
 by_cases hok:h.ok=true
 ·by_cases hl:l.length≤236
  ·have hE:sealE h l=0:=by unfold sealE;rw[if_pos hok,if_pos hl]
   have hB:sealB h l=blkL h l:=by unfold sealB;rw[if_pos hok,if_pos hl]
   rw[hE,hB]
   have hn:¬(236:Int)<(n:Int):=by omega
   go_enter Tryz.func67,Tryz.ntmps67
   go_wp2_with fail
   refine (q23 h _).mono ?_
   rw[hok]
   rintro e w2 ⟨rfl,hb2⟩
   have H2:HB w2 w.heap.size h:=HB.below ⟨_,heap_alloc_new w _⟩ hb2 (by simp)
   have hB2:Below w.heap.size w w2:=(blA).trans (hb2.mono (by simp))
   have hz2:=hb2.size
   rw[World.size_alloc] at hz2
   clear hb2
   have q2:w2.cell? ⟨w.heap.size,0,none⟩=some (.int .i64 h.kind):=H2.at_ 0
   go_wp2_with fail
   refine (q1f none 0 0 _ h.kind 1 w2 (q0k _) (by omega)).mono ?_
   rw[q6a _ _ 1 (by omega) (by omega)]
   rintro e w3 ⟨A3,n3,c3,rfl,own3,hb⟩
   have H3:=H2.below hb (by omega)
   have hB3:=hB2.trans (hb.mono hB2.size)
   have hz3:=hb.size
   have hn3:n3≤1:=by have:=own3.len;simp[q0b] at this;omega
   clear hb H2
   have q3:w3.cell? ⟨w.heap.size,3,none⟩=some (.int .i64 h.level):=H3.at_ 1
   go_wp2_with fail
   refine (q1f A3 n3 c3 _ h.level 1 w3 own3.sl (by omega)).mono ?_
   rw[q6a _ _ 1 (by omega) (by omega)]
   rintro e w4 ⟨A4,n4,c4,rfl,own4,hb⟩
   have H4:=H3.below hb (by omega)
   have hB4:=hB3.trans (hb.mono hB3.size)
   have hz4:=hb.size
   have hn4:n4≤2:=by have:=own4.len;simp[q0b] at this;omega
   clear hb H3
   have q4:w4.cell? ⟨w.heap.size,1,none⟩=some (.int .i64 h.addr):=H4.at_ 2
   go_wp2_with fail
   refine (q1f A4 n4 c4 _ h.addr 2 w4 own4.sl (by omega)).mono ?_
   rw[q6a _ _ 2 (by omega) (by omega)]
   rintro e w5 ⟨A5,n5,c5,rfl,own5,hb⟩
   have H5:=H4.below hb (by omega)
   have hB5:=hB4.trans (hb.mono hB4.size)
   have hz5:=hb.size
   have hn5:n5≤4:=by have:=own5.len;simp[q0b] at this;omega
   clear hb H4
   have q5:w5.cell? ⟨w.heap.size,2,none⟩=some (.int .i64 h.count):=H5.at_ 3
   go_wp2_with fail
   refine (q1f A5 n5 c5 _ h.count 2 w5 own5.sl (by omega)).mono ?_
   rw[q6a _ _ 2 (by omega) (by omega)]
   rintro e w6 ⟨A6,n6,c6,rfl,own6,hb⟩
   have H6:=H5.below hb (by omega)
   have hB6:=hB5.trans (hb.mono hB5.size)
   have hz6:=hb.size
   have hn6:n6≤6:=by have:=own6.len;simp[q0b] at this;omega
   clear hb H5
   have q6:w6.cell? ⟨w.heap.size,4,none⟩=some (.int .i64 h.gen):=H6.at_ 4
   go_wp2_with fail
   refine (q1f A6 n6 c6 _ h.gen 5 w6 own6.sl (by omega)).mono ?_
   rw[q6a _ _ 5 (by omega) (by omega)]
   rintro e w7 ⟨A7,n7,c7,rfl,own7,hb⟩
   have H7:=H6.below hb (by omega)
   have hB7:=hB6.trans (hb.mono hB6.size)
   have hz7:=hb.size
   have hn7:n7≤11:=by have:=own7.len;simp[q0b] at this;omega
   clear hb H6
   go_wp2_with fail
   refine (q1f A7 n7 c7 _ 0 5 w7 own7.sl (by omega)).mono ?_
   rw[q6a _ _ 5 (by omega) (by omega)]
   rintro e w8 ⟨A8,n8,c8,rfl,own8,hb⟩
   have hB8:=hB7.trans (hb.mono hB7.size)
   have own8:=own8.less hB7.size
   have hs8:=hs.below hB8
   have e8:([]++dig h.kind (1:Int).toNat++dig h.level (1:Int).toNat++dig h.addr (2:Int).toNat++dig h.count (2:Int).toNat++dig h.gen (5:Int).toNat++dig 0 (5:Int).toNat)=hdB h++List.replicate 5 0:=by
    rw[show dig 0 (5:Int).toNat=List.replicate 5 0 by rfl]
    simp[hdB]
   rw[e8] at own8
   have hn8:n8=16:=by have:=own8.len;simp[q3v] at this;omega
   subst hn8
   have hz8:=hB8.size
   clear e8 H7
   obtain⟨P,hP⟩:∃P,hdB h++List.replicate 5 0=P:=⟨_,rfl⟩
   rw[hP] at own8
   go_wp2_with (at_builtin;refine q0x _ T22 rfl _ _ rfl w.heap.size A8 16 c8 P rfl own8 A n c l rfl hs8 (by omega) hz8 ?_)
   intro A9 c9 w9 own9 hb9
   have hB9:=hB8.trans hb9
   go_wp2_with fail
   have hpl:P.length=16:=by rw[←hP];simp[q3v]
   obtain⟨X,hX⟩:∃X,P++l=X:=⟨_,rfl⟩
   rw[hX] at own9
   go_loopw [7] (fun s wr=>∃(k:Nat) (A:Option Addr) (m c:Nat),k≤236-l.length∧s=.slice A m c∧16+n+k≤m∧m≤16+n+k∧Own wr w.heap.size 5 A m c (filR X k)∧Below w.heap.size w wr) (fun s _=>252-lenV s)
   case atStart=>exact⟨0,A9,16+n,c9,by omega,rfl,by omega,by omega,by rw[qe6];exact own9,hB9⟩
   case round=>
    obtain⟨k,A',m,c',hk,rfl,hmk,hmk2,hown,hB⟩:=hrel
    by_cases hlt:m<252
    ·have hone:=qej wr 5 0 (.int .u8 0) rfl
     have hown':=hown.alloc (.cells #[.int .u8 0] 5)
     have hzr:=hB.size
     go_wp2_with (at_builtin;refine q0x _ T22 rfl _ _ rfl w.heap.size _ _ _ _ rfl hown' _ _ _ _ rfl hone.sl (by omega) (by simp;omega) ?_)
     intro A2 c2 w2 hown2 hb2
     have hb2:=q2p _ hb2 hzr
     rw[qe5] at hown2
     go_wp2
     exact⟨⟨k+1,_,_,_,by omega,rfl,by omega,by omega,hown2,hB.trans hb2⟩,by simp[lenV];omega⟩
    ·have hR:filR X k=restL h l:=by
      rw[show k=236-l.length by omega,←hX,←hP];unfold restL filR;simp
     rw[hR] at hown
     have hs':=hown.sl
     obtain rfl:m=252:=by omega
     clear hmk hmk2 hk
     have hlt':=qas 0 (restL h l)
     obtain⟨S,hS⟩:∃S,more 0 (restL h l)=S:=⟨_,rfl⟩
     rw[hS] at hlt'
     go_wp2_with fail
     refine (qah A' 252 c' _ wr hs').mono ?_
     rw[hS]
     rintro e wx ⟨rfl,rfl⟩
     go_wp2_with fail
     refine (q1f none 0 0 [] (S:Int) 4 wr (q0k _) (by omega)).mono ?_
     rw[q6a _ _ 4 (by omega) (by omega)]
     rintro e w5 ⟨A5,n5,c5,rfl,own5,hb5⟩
     have hn5:n5=4:=by have:=own5.len;simp[q0b] at this;omega
     subst hn5
     have hz5:=hb5.size
     have hs5:=hs'.below hb5
     go_wp2_with (at_builtin;refine q0x _ T22 rfl _ _ rfl wr.heap.size _ _ _ _ rfl own5 A' 252 c' _ rfl hs5 (by omega) hz5 ?_)
     intro A6 c6 w6 own6 hb6
     go_wp2
     go_ret2
     have hfin:dig (S:Int) 4++restL h l=blkL h l:=by unfold blkL;rw[hS]
     rw[hfin] at own6
     exact⟨_,_,_,rfl,own6.less hB.size,hB.trans ((hb5.trans hb6).mono hB.size)⟩
  ·have hE:sealE h l=7:=by unfold sealE;rw[if_pos hok,if_neg hl]
   have hB:sealB h l=[]:=by unfold sealB;rw[if_pos hok,if_neg hl]
   rw[hE,hB]
   have hn:(236:Int)<(n:Int):=by omega
   go_enter Tryz.func67,Tryz.ntmps67
   go_wp2_with (first
    |(go_at_call 123;refine (q23 h _).mono ?_;rw[hok];rintro e w2 ⟨rfl,hb2⟩)
    |fail)
   go_ret2
   exact⟨_,_,_,rfl,own_none _ _ _,(blA).trans (hb2.mono (by simp))⟩
 ·have hok':h.ok=false:=by simpa using hok
  have hE:sealE h l=1:=by unfold sealE;rw[if_neg hok]
  have hB:sealB h l=[]:=by unfold sealB;rw[if_neg hok]
  rw[hE,hB]
  go_enter Tryz.func67,Tryz.ntmps67
  go_wp2_with (first
   |(go_at_call 123;refine (q23 h _).mono ?_;rw[hok'];rintro e w2 ⟨rfl,hb2⟩)
   |fail)
  go_ret2
  exact⟨_,_,_,rfl,own_none _ _ _,(blA).trans (hb2.mono (by simp))⟩
theorem q3z (h:Hd)(A:Option Addr)(n c:Nat)(l:List UInt8)(w:World)(hs:Sl w A n c l) :
  Calls Tryz.prog 67 #[.agg #[.int .i64 h.kind,.int .i64 h.addr,.int .i64 h.count,.int .i64 h.level,.int .i64 h.gen],.slice A n c] w fun e w'=>
   ∃A' n' c',e=.returned (.tuple #[.slice A' n' c',.int .i64 (sealE h l)])∧Sl w' A' n' c' (sealB h l)∧Below w.heap.size w w':=by
 refine (q2w h A n c l w hs).mono ?_
 rintro e w' ⟨A',n',c',rfl,own,hb⟩
 exact⟨A',n',c',rfl,own.sl,hb⟩
theorem qjb (l:List UInt8)(a:Nat):l.foldl (fun a b=>256*a+b.toNat) a=a*256 ^ l.length+numL l:=by
 induction l generalizing a with
 |nil=>simp[numL]
 |cons b l ih=>
  unfold numL
  rw[List.foldl_cons,List.foldl_cons,ih,ih (256*0+b.toNat),List.length_cons,Nat.pow_succ,Nat.add_mul,Nat.add_mul]
  have e:256*a*256 ^ l.length=a*(256 ^ l.length*256):=by rw[Nat.mul_comm 256 a,Nat.mul_assoc,Nat.mul_comm 256]
  omega
theorem q53 (b:UInt8)(l:List UInt8):numL (b::l)=b.toNat*256 ^ l.length+numL l:=by
 have h:=qjb l (256*0+b.toNat)
 have e:(256*0+b.toNat)*256 ^ l.length=b.toNat*256 ^ l.length:=by rw[Nat.mul_zero,Nat.zero_add]
 rw[e] at h
 exact h
theorem qpd (u k:Nat):(low (u:Int) k).toNat=u / 256 ^ k % 256:=by
 unfold low
 have e:((u:Int) / 2 ^ (8*k) % 256)=((u / 256 ^ k % 256:Nat):Int):=by
  rw[show (256:Nat) ^ k=2 ^ (8*k) by rw[Nat.pow_mul],Int.natCast_emod,Int.natCast_ediv,Int.natCast_pow]
  rfl
 rw[e,Int.toNat_natCast,UInt8.toNat_ofNat']
 omega
theorem q6b (u k:Nat):numL (dig (u:Int) k)=u % 256 ^ k:=by
 induction k with
 |zero=>simp[dig,numL,Nat.mod_one]
 |succ k ih=>
  rw[dig,q53,q0b,ih,qpd,Nat.mod_pow_succ,Nat.mul_comm]
  omega
theorem qbv:∀{a b:List UInt8},a.length=b.length→numL a=numL b→a=b
 |[],[],_,_=>rfl
 |[],_::_,h,_=>by simp at h
 |_::_,[],h,_=>by simp at h
 |x::a,y::b,h,e=>by
  have hl:a.length=b.length:=by simpa using h
  rw[q53,q53,hl] at e
  have h1:=q4j a
  have h2:=q4j b
  rw[hl] at h1
  have hp:0<256 ^ b.length:=Nat.pow_pos (by omega)
  have d1:(x.toNat*256 ^ b.length+numL a) / 256 ^ b.length=x.toNat:=by rw[Nat.mul_comm,Nat.mul_add_div hp,Nat.div_eq_of_lt h1];omega
  have d2:(y.toNat*256 ^ b.length+numL b) / 256 ^ b.length=y.toNat:=by rw[Nat.mul_comm,Nat.mul_add_div hp,Nat.div_eq_of_lt h2];omega
  have hxy:x.toNat=y.toNat:=by rw[←d1,←d2,e]
  have hx:=UInt8.toNat_inj.1 hxy
  subst hx
  have hr:numL a=numL b:=by omega
  rw[qbv hl hr]
theorem qpe (l:List UInt8)(hl:l.length=256):((numL (l.take 4):Int)=(more 0 (l.drop 4):Int))↔l.take 4=sumB l:=by
 have hlt:=qas 0 (l.drop 4)
 have e:numL (sumB l)=more 0 (l.drop 4):=by unfold sumB;rw[q6b,Nat.mod_eq_of_lt (by omega)]
 constructor
 ·intro h
  exact qbv (by rw[qhm,List.length_take,hl];rfl) (by rw[e];omega)
 ·intro h
  rw[h,e]
theorem qe7:∀{a:List UInt8},numL a=0↔allZ a=true
 |[]=>by simp[numL,allZ]
 |x::a=>by
  have ih:=@qe7 a
  rw[q53]
  have hp:0<256 ^ a.length:=Nat.pow_pos (by omega)
  have e:allZ (x::a)=(decide (x=0)&&allZ a):=by unfold allZ;rw[List.all_cons];congr 1
  rw[e,Bool.and_eq_true,decide_eq_true_eq,←ih]
  constructor
  ·intro h
   have h1:x.toNat*256 ^ a.length=0:=by omega
   have h2:x.toNat=0:=by rcases Nat.mul_eq_zero.1 h1 with h|h<;>omega
   exact⟨UInt8.toNat_inj.1 h2,by omega⟩
  ·rintro⟨rfl,h⟩
   simp[h]
theorem qse (l:List UInt8):hdOf ((l.drop 4).take 11)=⟨numL ((l.drop 4).take 1),numL ((l.drop 6).take 2),numL ((l.drop 8).take 2),numL ((l.drop 5).take 1),numL ((l.drop 10).take 5)⟩:=by
 unfold hdOf
 simp[List.take_take,List.drop_take,List.drop_drop]
def gN (l:List UInt8)(p m:Nat):Nat:=numL ((l.drop p).take m)
theorem qmu (l:List UInt8):hdOf ((l.drop 4).take 11)=⟨gN l 4 1,gN l 6 2,gN l 8 2,gN l 5 1,gN l 10 5⟩:=qse l
theorem rtake {l0:List UInt8}(hl:l0.length=256)(p m n n':Nat){A:Option Addr}{c:Nat}{w:World}(h:Sl w A n c (l0.drop p))(wd:Int)(hw:wd=(m:Int))(h1:1≤m)(h7:m≤7)(hp:p+m≤256)(hn':n'+(p+m)=256) :
  Calls Tryz.prog 144 #[.slice A n c,.int .i64 wd] w fun e w'=>∃A' c',e=.returned (.tuple #[.int .i64 (gN l0 p m),.slice A' n' c',.int .i64 0])∧Own w' w.heap.size 5 A' n' c' (l0.drop (p+m))∧Below w.heap.size w w':=by
 have hln:=h.len
 rw[List.length_drop,hl] at hln
 refine (q1m A n c _ wd w h (by omega) (by omega) (by omega) (by omega)).mono ?_
 rintro e w' ⟨A',k',c',rfl,own,hb⟩
 subst hw
 rw[Int.toNat_natCast,List.drop_drop] at own
 rw[Int.toNat_natCast]
 have hk:=own.len
 rw[List.length_drop,hl] at hk
 obtain rfl:k'=n':=by omega
 exact⟨A',c',rfl,own,hb⟩
theorem setF {w v:World}{b r base n c:Nat}{h:Hd}{A:Option Addr}{l:List UInt8}(H:HB v b h)(own:Own v base 5 A n c l)(HZ:HB v r Hd.zero)(hB:Below w.heap.size w v)(k:Nat)(x:Int)(h1:r<b)(h2:w.heap.size≤b)(h3:b<base) :
  HB (v.setCell ⟨b,foff k,none⟩ (.int .i64 x)) b (h.set k x)∧Sl (v.setCell ⟨b,foff k,none⟩ (.int .i64 x)) A n c l∧HB (v.setCell ⟨b,foff k,none⟩ (.int .i64 x)) r Hd.zero∧Below w.heap.size w (v.setCell ⟨b,foff k,none⟩ (.int .i64 x))∧(v.setCell ⟨b,foff k,none⟩ (.int .i64 x)).heap.size=v.heap.size:=by
 have hb:Below b v (v.setCell ⟨b,foff k,none⟩ (.int .i64 x)):=(Below.refl _ v).setCell (p:=⟨b,foff k,none⟩) (Nat.le_refl _) _
 exact⟨H.set_ k x,(own.turn fun g hg _=>Below.heap_setCell _ _ _ _ (by show g≠b;omega)).sl,HZ.below hb h1,hB.trans (hb.mono h2),World.size_setCell ..⟩
def q2x (A:Option Addr)(n c:Nat)(l:List UInt8)(w:World):Prop:=
  Calls Tryz.prog 134 #[.slice A n c] w fun e w'=>
   ∃A' n' c',e=.returned (.tuple #[(opH l).v,.slice A' n' c',.int .i64 (opE l)])∧Own w' w.heap.size 5 A' n' c' (opB l)∧Below w.heap.size w w'
theorem q41 (A:Option Addr)(n c:Nat)(l:List UInt8)(w:World)(hs:Sl w A n c l):q2x A n c l w:=by
 unfold q2x
 have hlen:=hs.len
 have hcap:=hs.cap
 have hm:=hs.max
 unfold maxLen at hm
 have HZ:=HB.zero w 118
 have hb0:Below w.heap.size w (w.alloc (.cells #[.int .i64 0,.int .i64 0,.int .i64 0,.int .i64 0,.int .i64 0] 118)):=blA
 have hz0:w.heap.size<(w.alloc (.cells #[.int .i64 0,.int .i64 0,.int .i64 0,.int .i64 0,.int .i64 0] 118)).heap.size:=by simp
 by_cases hn:n=256
 ·subst hn
  go_enter Tryz.func134,Tryz.ntmps134
  go_wp2_with fail
  generalize (w.alloc (.cells #[.int .i64 0,.int .i64 0,.int .i64 0,.int .i64 0,.int .i64 0] 118))=w1 at HZ hb0 hz0 ⊢
  refine (rtake hlen 0 4 256 252 (hs.below hb0) 4 rfl (by omega) (by omega) (by omega) rfl).mono ?_
  rintro e w3 ⟨A3,c3,rfl,own3,hb3⟩
  have hz3:=hb3.size
  have HZ3:=HZ.below hb3 hz0
  have hB3:=hb0.trans (hb3.mono hb0.size)
  have hsame:=qpe l hlen
  have hlt:=qas 0 (l.drop 4)
  obtain⟨S,hS⟩:∃S,more 0 (l.drop 4)=S:=⟨_,rfl⟩
  rw[hS] at hsame hlt
  change (((gN l 0 4:Nat):Int)=(S:Int))↔_ at hsame
  go_wp2_with fail
  refine (qah A3 252 c3 _ w3 own3.sl).mono ?_
  rw[show more 0 (l.drop (0+4))=S from hS]
  rintro e wx ⟨rfl,rfl⟩
  obtain⟨s0,hs0⟩:∃s0,gN l 0 4=s0:=⟨_,rfl⟩
  rw[hs0] at hsame ⊢
  by_cases heq:(s0:Int)=(S:Int)
  ·have hsum:=hsame.1 heq
   go_wp2_with fail
   generalize hw4:w3.alloc _=w4
   have H4:HB w4 w3.heap.size Hd.zero:=by rw[←hw4];exact HB.zero w3 _
   have hb4:Below w3.heap.size w3 w4:=by rw[←hw4];exact blA
   have hz4:w4.heap.size=w3.heap.size+1:=by rw[←hw4];simp
   clear hw4
   have Z4:=HZ3.below hb4 (by omega)
   have B4:=hB3.trans (hb4.mono hB3.size)
   have s4:=own3.sl.below hb4
   clear hb4
   refine (rtake hlen 4 1 252 251 s4 1 rfl (by omega) (by omega) (by omega) rfl).mono ?_
   rintro e w5 ⟨A5,c5,rfl,own5,hb⟩
   have hz:=hb.size
   have H:=H4.below hb (by omega)
   have Z:=Z4.below hb (by omega)
   have B:=B4.trans (hb.mono B4.size)
   clear hb H4 Z4 s4
   obtain⟨x0,hx0⟩:∃x,gN l 4 1=x:=⟨_,rfl⟩
   rw[hx0]
   obtain⟨y,q⟩:∃y,w5.cell? ⟨w3.heap.size,0,none⟩=some (.int .i64 y):=⟨_,H.at_ 0⟩
   have f:w5.frozen? ⟨w3.heap.size,0,none⟩=false:=H.fz 0
   go_wp2_with fail
   obtain⟨H5,s5,Z5,B5,hzs⟩:=setF H own5 Z B 0 (x0:Int) (by omega) (by omega) (by omega)
   change HB (w5.setCell ⟨w3.heap.size,0,none⟩ (.int .i64 (x0:Int))) _ _ at H5
   change Sl (w5.setCell ⟨w3.heap.size,0,none⟩ (.int .i64 (x0:Int))) _ _ _ _ at s5
   change HB (w5.setCell ⟨w3.heap.size,0,none⟩ (.int .i64 (x0:Int))) _ _ at Z5
   change Below _ _ (w5.setCell ⟨w3.heap.size,0,none⟩ (.int .i64 (x0:Int))) at B5
   change (w5.setCell ⟨w3.heap.size,0,none⟩ (.int .i64 (x0:Int))).heap.size=_ at hzs
   generalize w5.setCell ⟨w3.heap.size,0,none⟩ (.int .i64 (x0:Int))=v5 at H5 s5 Z5 B5 hzs ⊢
   have hz5:w3.heap.size<v5.heap.size:=by omega
   clear H Z B q f hz hzs own5 y
   refine (rtake hlen 5 1 251 250 s5 1 rfl (by omega) (by omega) (by omega) rfl).mono ?_
   rintro e w6 ⟨A6,c6,rfl,own6,hb⟩
   have hz:=hb.size
   have H:=H5.below hb (by omega)
   have Z:=Z5.below hb (by omega)
   have B:=B5.trans (hb.mono B5.size)
   clear hb H5 Z5 s5
   obtain⟨x1,hx1⟩:∃x,gN l 5 1=x:=⟨_,rfl⟩
   rw[hx1]
   obtain⟨y,q⟩:∃y,w6.cell? ⟨w3.heap.size,3,none⟩=some (.int .i64 y):=⟨_,H.at_ 1⟩
   have f:w6.frozen? ⟨w3.heap.size,3,none⟩=false:=H.fz 1
   go_wp2_with fail
   obtain⟨H6,s6,Z6,B6,hzs⟩:=setF H own6 Z B 1 (x1:Int) (by omega) (by omega) (by omega)
   change HB (w6.setCell ⟨w3.heap.size,3,none⟩ (.int .i64 (x1:Int))) _ _ at H6
   change Sl (w6.setCell ⟨w3.heap.size,3,none⟩ (.int .i64 (x1:Int))) _ _ _ _ at s6
   change HB (w6.setCell ⟨w3.heap.size,3,none⟩ (.int .i64 (x1:Int))) _ _ at Z6
   change Below _ _ (w6.setCell ⟨w3.heap.size,3,none⟩ (.int .i64 (x1:Int))) at B6
   change (w6.setCell ⟨w3.heap.size,3,none⟩ (.int .i64 (x1:Int))).heap.size=_ at hzs
   generalize w6.setCell ⟨w3.heap.size,3,none⟩ (.int .i64 (x1:Int))=v6 at H6 s6 Z6 B6 hzs ⊢
   have hz6:w3.heap.size<v6.heap.size:=by omega
   clear H Z B q f hz hzs own6 y
   refine (rtake hlen 6 2 250 248 s6 2 rfl (by omega) (by omega) (by omega) rfl).mono ?_
   rintro e w7 ⟨A7,c7,rfl,own7,hb⟩
   have hz:=hb.size
   have H:=H6.below hb (by omega)
   have Z:=Z6.below hb (by omega)
   have B:=B6.trans (hb.mono B6.size)
   clear hb H6 Z6 s6
   obtain⟨x2,hx2⟩:∃x,gN l 6 2=x:=⟨_,rfl⟩
   rw[hx2]
   obtain⟨y,q⟩:∃y,w7.cell? ⟨w3.heap.size,1,none⟩=some (.int .i64 y):=⟨_,H.at_ 2⟩
   have f:w7.frozen? ⟨w3.heap.size,1,none⟩=false:=H.fz 2
   go_wp2_with fail
   obtain⟨H7,s7,Z7,B7,hzs⟩:=setF H own7 Z B 2 (x2:Int) (by omega) (by omega) (by omega)
   change HB (w7.setCell ⟨w3.heap.size,1,none⟩ (.int .i64 (x2:Int))) _ _ at H7
   change Sl (w7.setCell ⟨w3.heap.size,1,none⟩ (.int .i64 (x2:Int))) _ _ _ _ at s7
   change HB (w7.setCell ⟨w3.heap.size,1,none⟩ (.int .i64 (x2:Int))) _ _ at Z7
   change Below _ _ (w7.setCell ⟨w3.heap.size,1,none⟩ (.int .i64 (x2:Int))) at B7
   change (w7.setCell ⟨w3.heap.size,1,none⟩ (.int .i64 (x2:Int))).heap.size=_ at hzs
   generalize w7.setCell ⟨w3.heap.size,1,none⟩ (.int .i64 (x2:Int))=v7 at H7 s7 Z7 B7 hzs ⊢
   have hz7:w3.heap.size<v7.heap.size:=by omega
   clear H Z B q f hz hzs own7 y
   refine (rtake hlen 8 2 248 246 s7 2 rfl (by omega) (by omega) (by omega) rfl).mono ?_
   rintro e w8 ⟨A8,c8,rfl,own8,hb⟩
   have hz:=hb.size
   have H:=H7.below hb (by omega)
   have Z:=Z7.below hb (by omega)
   have B:=B7.trans (hb.mono B7.size)
   clear hb H7 Z7 s7
   obtain⟨x3,hx3⟩:∃x,gN l 8 2=x:=⟨_,rfl⟩
   rw[hx3]
   obtain⟨y,q⟩:∃y,w8.cell? ⟨w3.heap.size,2,none⟩=some (.int .i64 y):=⟨_,H.at_ 3⟩
   have f:w8.frozen? ⟨w3.heap.size,2,none⟩=false:=H.fz 3
   go_wp2_with fail
   obtain⟨H8,s8,Z8,B8,hzs⟩:=setF H own8 Z B 3 (x3:Int) (by omega) (by omega) (by omega)
   change HB (w8.setCell ⟨w3.heap.size,2,none⟩ (.int .i64 (x3:Int))) _ _ at H8
   change Sl (w8.setCell ⟨w3.heap.size,2,none⟩ (.int .i64 (x3:Int))) _ _ _ _ at s8
   change HB (w8.setCell ⟨w3.heap.size,2,none⟩ (.int .i64 (x3:Int))) _ _ at Z8
   change Below _ _ (w8.setCell ⟨w3.heap.size,2,none⟩ (.int .i64 (x3:Int))) at B8
   change (w8.setCell ⟨w3.heap.size,2,none⟩ (.int .i64 (x3:Int))).heap.size=_ at hzs
   generalize w8.setCell ⟨w3.heap.size,2,none⟩ (.int .i64 (x3:Int))=v8 at H8 s8 Z8 B8 hzs ⊢
   have hz8:w3.heap.size<v8.heap.size:=by omega
   clear H Z B q f hz hzs own8 y
   refine (rtake hlen 10 5 246 241 s8 5 rfl (by omega) (by omega) (by omega) rfl).mono ?_
   rintro e w9 ⟨A9,c9,rfl,own9,hb⟩
   have hz:=hb.size
   have H:=H8.below hb (by omega)
   have Z:=Z8.below hb (by omega)
   have B:=B8.trans (hb.mono B8.size)
   clear hb H8 Z8 s8
   obtain⟨x4,hx4⟩:∃x,gN l 10 5=x:=⟨_,rfl⟩
   rw[hx4]
   obtain⟨y,q⟩:∃y,w9.cell? ⟨w3.heap.size,4,none⟩=some (.int .i64 y):=⟨_,H.at_ 4⟩
   have f:w9.frozen? ⟨w3.heap.size,4,none⟩=false:=H.fz 4
   go_wp2_with fail
   obtain⟨H9,s9,Z9,B9,hzs⟩:=setF H own9 Z B 4 (x4:Int) (by omega) (by omega) (by omega)
   change HB (w9.setCell ⟨w3.heap.size,4,none⟩ (.int .i64 (x4:Int))) _ _ at H9
   change Sl (w9.setCell ⟨w3.heap.size,4,none⟩ (.int .i64 (x4:Int))) _ _ _ _ at s9
   change HB (w9.setCell ⟨w3.heap.size,4,none⟩ (.int .i64 (x4:Int))) _ _ at Z9
   change Below _ _ (w9.setCell ⟨w3.heap.size,4,none⟩ (.int .i64 (x4:Int))) at B9
   change (w9.setCell ⟨w3.heap.size,4,none⟩ (.int .i64 (x4:Int))).heap.size=_ at hzs
   generalize w9.setCell ⟨w3.heap.size,4,none⟩ (.int .i64 (x4:Int))=v9 at H9 s9 Z9 B9 hzs ⊢
   have hz9:w3.heap.size<v9.heap.size:=by omega
   clear H Z B q f hz hzs own9 y
   refine (rtake hlen 15 5 241 236 s9 5 rfl (by omega) (by omega) (by omega) rfl).mono ?_
   rintro e w10 ⟨A10,c10,rfl,own10,hb10⟩
   have hz10:=hb10.size
   have H10:=H9.below hb10 (by omega)
   have Z10:=Z9.below hb10 (by omega)
   have B10:=B9.trans (hb10.mono B9.size)
   clear hb10 H9 Z9 s9
   have hH:hdOf ((l.drop 4).take 11)=⟨(x0:Int),(x2:Int),(x3:Int),(x1:Int),(x4:Int)⟩:=by rw[qmu,hx0,hx1,hx2,hx3,hx4]
   change HB w10 w3.heap.size ⟨(x0:Int),(x2:Int),(x3:Int),(x1:Int),(x4:Int)⟩ at H10
   rw[←hH] at H10
   have hzero:gN l 15 5=0↔allZ ((l.drop 15).take 5)=true:=qe7
   obtain⟨x5,hx5⟩:∃x,gN l 15 5=x:=⟨_,rfl⟩
   rw[hx5] at hzero ⊢
   obtain⟨H,hHH⟩:∃H,hdOf ((l.drop 4).take 11)=H:=⟨_,rfl⟩
   rw[hHH] at H10
   clear hH
   cases hok:H.ok
   ·have hno:okB l=false:=decide_eq_false (fun h=>by have:=h.2.2.1;rw[hHH,hok] at this;cases this)
    by_cases hx:(x5:Int)=0
    ·skip
     go_wp2_with (first
      |(refine q1p rfl (.tmp 8) rfl w3.heap.size rfl H (by first|exact H10|exact H11) ?_)
      |(go_at_call 123;refine (q23 H _).mono ?_;rw[hok];rintro e w11 ⟨rfl,hb11⟩;have hz11:=hb11.size;have H11:=H10.below hb11 (by omega);have Z11:=Z10.below hb11 (by omega);have B11:=B10.trans (hb11.mono B10.size);have s11:=own10.sl.below hb11)
      |(refine q08 rfl (.tmp 2) (.tmp 83) rfl w.heap.size rfl Hd.zero _ rfl Z11 (by omega) ?_;intro wz hrz hbz Tz)
      |fail)
     all_goals
      refine bodyPost_ret (q09 Tryz.results134 rfl (q0w hrz)) rfl ?_
      obtain⟨h1,h2,h3⟩:=q4q hno
      rw[h1,h2,h3]
      exact⟨_,_,_,rfl,q1h _ _ _,B11.trans (hbz _ (Nat.le_refl _))⟩
    ·have hxd:decide ((x5:Int)=0)=false:=decide_eq_false hx
     go_wp2_with (first
      |(refine q1p rfl (.tmp 8) rfl w3.heap.size rfl H (by first|exact H10|exact H11) ?_)
      |(go_at_call 123;refine (q23 H _).mono ?_;rw[hok];rintro e w11 ⟨rfl,hb11⟩;have hz11:=hb11.size;have H11:=H10.below hb11 (by omega);have Z11:=Z10.below hb11 (by omega);have B11:=B10.trans (hb11.mono B10.size);have s11:=own10.sl.below hb11)
      |(refine q08 rfl (.tmp 2) (.tmp 83) rfl w.heap.size rfl Hd.zero _ rfl Z11 (by omega) ?_;intro wz hrz hbz Tz)
      |fail)
     all_goals
      refine bodyPost_ret (q09 Tryz.results134 rfl (q0w hrz)) rfl ?_
      obtain⟨h1,h2,h3⟩:=q4q hno
      rw[h1,h2,h3]
      exact⟨_,_,_,rfl,q1h _ _ _,B11.trans (hbz _ (Nat.le_refl _))⟩
   ·by_cases hx:(x5:Int)=0
    ·have hzz:=hzero.1 (by omega)
     have hyes:okB l=true:=decide_eq_true ⟨hlen,hsum,by rw[hHH];exact hok,hzz⟩
     go_wp2_with (first
      |(refine q1p rfl (.tmp 8) rfl w3.heap.size rfl H (by first|exact H10|exact H11) ?_)
      |(go_at_call 123;refine (q23 H _).mono ?_;rw[hok];rintro e w11 ⟨rfl,hb11⟩;have hz11:=hb11.size;have H11:=H10.below hb11 (by omega);have Z11:=Z10.below hb11 (by omega);have B11:=B10.trans (hb11.mono B10.size);have s11:=own10.sl.below hb11)
      |(refine q08 rfl (.tmp 2) (.tmp 84) rfl w.heap.size rfl H _ rfl Z11 (by omega) ?_;intro wz hrz hbz Tz)
      |fail)
     refine bodyPost_ret (q09 Tryz.results134 rfl (q0w hrz)) rfl ?_
     obtain⟨h1,h2,h3⟩:=q2f hyes
     rw[h1,h2,h3,hHH]
     exact⟨_,_,_,rfl,((own10.below hb11).turn fun g hg hl=>Tz.block g hl (by show ¬g=w.heap.size;omega)).less B9.size,B11.trans (hbz _ (Nat.le_refl _))⟩
    ·have hno:okB l=false:=decide_eq_false (fun h=>hx (by have:=hzero.2 h.2.2.2;omega))
     have hxd:decide ((x5:Int)=0)=false:=decide_eq_false hx
     go_wp2_with (first
      |(refine q1p rfl (.tmp 8) rfl w3.heap.size rfl H (by first|exact H10|exact H11) ?_)
      |(go_at_call 123;refine (q23 H _).mono ?_;rw[hok];rintro e w11 ⟨rfl,hb11⟩;have hz11:=hb11.size;have H11:=H10.below hb11 (by omega);have Z11:=Z10.below hb11 (by omega);have B11:=B10.trans (hb11.mono B10.size);have s11:=own10.sl.below hb11)
      |(refine q08 rfl (.tmp 2) (.tmp 83) rfl w.heap.size rfl Hd.zero _ rfl Z11 (by omega) ?_;intro wz hrz hbz Tz)
      |fail)
     all_goals
      refine bodyPost_ret (q09 Tryz.results134 rfl (q0w hrz)) rfl ?_
      obtain⟨h1,h2,h3⟩:=q4q hno
      rw[h1,h2,h3]
      exact⟨_,_,_,rfl,q1h _ _ _,B11.trans (hbz _ (Nat.le_refl _))⟩
  ·have hne:decide ((s0:Int)=(S:Int))=false:=decide_eq_false heq
   have hno:okB l=false:=decide_eq_false (fun h=>heq (hsame.2 h.2.1))
   obtain⟨h1,h2,h3⟩:=q4q hno
   go_wp2_with (first
    |(refine q08 rfl (.tmp 2) (.tmp 27) rfl w.heap.size rfl Hd.zero _ rfl HZ3 (by omega) ?_;intro wz hrz hbz Tz)
    |fail)
   rw[h1,h2,h3]
   refine bodyPost_ret (q09 Tryz.results134 rfl (q0w hrz)) rfl ?_
   exact⟨_,_,_,rfl,q1h _ _ _,hB3.trans (hbz _ (Nat.le_refl _))⟩
 ·have hno:okB l=false:=decide_eq_false (fun h=>hn (by omega))
  obtain⟨h1,h2,h3⟩:=q4q hno
  rw[h1,h2,h3]
  have hn':¬(n:Int)=256:=by omega
  have hdn:decide ((n:Int)=256)=false:=decide_eq_false hn'
  go_enter Tryz.func134,Tryz.ntmps134
  go_wp2_with (first
   |(refine q08 rfl (.tmp 2) (.tmp 15) rfl w.heap.size rfl Hd.zero _ rfl (by exact HZ) (by exact hz0) ?_;intro w4 hr4 hb4 _)
   |fail)
  refine bodyPost_ret (q09 Tryz.results134 rfl (q0w hr4)) rfl ?_
  exact⟨_,_,_,rfl,q1h _ _ _,hb0.trans (hb4 _ (Nat.le_refl _))⟩
end Go.Proofs.YtipejjgodnnkaaaGreatDoor
