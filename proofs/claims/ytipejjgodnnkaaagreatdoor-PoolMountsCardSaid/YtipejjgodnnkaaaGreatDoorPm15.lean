/- Keys: the code's and the reference's Less and May; First and Last -/
import Derived.Test.YtipejjgodnnkaaaGreatDoorPm3
import Derived.Test.YtipejjgodnnkaaaGreatDoorPm5
import Derived.Deep.RegionHeld3
import Derived.Laws.StructEq
namespace Go.Proofs.YtipejjgodnnkaaaGreatDoor
open Go Go.RowKit Go.Proofs
set_option maxHeartbeats 4000000
def Kd.v (k:Kd):Value:=.agg #[.int .i64 k.obj,.int .i64 k.kind,.int .i64 k.off]
def Kd.vs (k:Kd):List Value:=[.int .i64 k.obj,.int .i64 k.kind,.int .i64 k.off]
def KB (w:World)(b:Nat)(k:Kd):Prop:=∃t,w.heap[b]?=some (.cells #[.int .i64 k.obj,.int .i64 k.kind,.int .i64 k.off] t (0,0))
theorem KB.new (w:World)(x y z:Int)(t:TypeId):KB (w.alloc (.cells #[.int .i64 x,.int .i64 y,.int .i64 z] t)) w.heap.size ⟨x,y,z⟩:=⟨t,heap_alloc_new w _⟩
theorem KB.below {w w':World}{b:Nat}{k:Kd}(H:KB w b k){B:Nat}(hb:Below B w w')(hB:b<B):KB w' b k:=by
 obtain⟨t,H⟩:=H
 exact⟨t,(hb.block b hB).trans H⟩
theorem KB.range {w:World}{b:Nat}{k:Kd}(H:KB w b k):w.rangeAt b 0 k.vs:=fun j v hv=>by
 obtain⟨t,H⟩:=H
 rw[cell_of_row _ _ _ _ _ _ H,Nat.zero_add]
 simpa [Kd.vs] using hv
theorem KB.c0 {w:World}{b:Nat}{k:Kd}(H:KB w b k):w.cell? ⟨b,0,none⟩=some (.int .i64 k.obj):=H.range 0 _ rfl
theorem KB.c1 {w:World}{b:Nat}{k:Kd}(H:KB w b k):w.cell? ⟨b,1,none⟩=some (.int .i64 k.kind):=H.range 1 _ rfl
theorem KB.c2 {w:World}{b:Nat}{k:Kd}(H:KB w b k):w.cell? ⟨b,2,none⟩=some (.int .i64 k.off):=H.range 2 _ rfl
theorem q4e {w:World}{b:Nat}{k:Kd}(H:KB w b k):(loadVar 140 ⟨b,0,none⟩).run Tryz.prog w=.ok k.v w:=
 run_loadVar_mid w b 0 140 k.vs _ H.range Tryz.underlying140 rfl (by kernel_rfl)
theorem qps {fn:Func}{p:Tmp}{ty:TypeId}{ad:Addr}{v:Value}{P:Program}{w:World}{tmps:Array Value}(h:fn.results=#[.cell p ty])(hp:tmps.getD p undef=.pointer (some ad))(hl:(loadVar ty ad).run P w=.ok v w) :
  (results fn tmps).run P w=.ok v w:=by
 have e:(results fn tmps).run P w=((asAddr (tmps.getD p undef)).run P w).andThen fun a w₁=>(loadVar ty a).run P w₁:=by
  simp only[results,h]
  simp[Sem.run_bind,Result.andThen]
  try rfl
 rw[e,hp]
 simp[asAddr,hl]
theorem q0r {fn:Func}{p a:Tmp}{ty:TypeId}{ad:Addr}{v:Value}{P:Program}{w:World}{tmps:Array Value}(h:fn.results=#[.cell p ty,.tmp a])(hp:tmps.getD p undef=.pointer (some ad))(hl:(loadVar ty ad).run P w=.ok v w) :
  (results fn tmps).run P w=.ok (.tuple #[v,tmps.getD a undef]) w:=by
 have e:(results fn tmps).run P w=((asAddr (tmps.getD p undef)).run P w).andThen fun ad w₁=>((loadVar ty ad).run P w₁).andThen fun v w₂=>.ok (.tuple #[v,tmps.getD a undef]) w₂:=by
  simp only[results,h]
  simp[Sem.run_bind,Result.andThen]
 rw[e,hp]
 simp[asAddr,hl]
theorem q44 {fn:Func}{p a b:Tmp}{ty:TypeId}{ad:Addr}{v:Value}{P:Program}{w:World}{tmps:Array Value}(h:fn.results=#[.cell p ty,.tmp a,.tmp b])(hp:tmps.getD p undef=.pointer (some ad))(hl:(loadVar ty ad).run P w=.ok v w) :
  (results fn tmps).run P w=.ok (.tuple #[v,tmps.getD a undef,tmps.getD b undef]) w:=by
 have e:(results fn tmps).run P w=((asAddr (tmps.getD p undef)).run P w).andThen fun ad w₁=>((loadVar ty ad).run P w₁).andThen fun v w₂=>.ok (.tuple #[v,tmps.getD a undef,tmps.getD b undef]) w₂:=by
  simp only[results,h]
  simp[Sem.run_bind,Result.andThen]
 rw[e,hp]
 simp[asAddr,hl]
theorem qns (a b:Kd)(w:World) :
  Calls Tryz.prog 194 #[.agg #[.int .i64 a.obj,.int .i64 a.kind,.int .i64 a.off],.agg #[.int .i64 b.obj,.int .i64 b.kind,.int .i64 b.off]] w fun e w'=>e=.returned (.bool (a.less b))∧Below w.heap.size w w':=by
 obtain⟨r,hr⟩:∃r,a.less b=r:=⟨_,rfl⟩
 rw[hr]
 unfold Kd.less at hr
 by_cases h1:a.obj=b.obj
 ·rw[if_pos h1] at hr
  by_cases h2:a.kind=b.kind
  ·rw[if_pos h2] at hr
   go_enter Tryz.func194,Tryz.ntmps194
   go_wp2
   go_ret
   exact⟨by rw[←hr];rfl,(blA).alloc (by simp) _⟩
  ·rw[if_neg h2] at hr
   go_enter Tryz.func194,Tryz.ntmps194
   go_wp2
   go_ret
   exact⟨by rw[←hr];rfl,(blA).alloc (by simp) _⟩
 ·rw[if_neg h1] at hr
  go_enter Tryz.func194,Tryz.ntmps194
  go_wp2
  go_ret
  exact⟨by rw[←hr];rfl,(blA).alloc (by simp) _⟩
theorem qeq (a b:Kd)(w:World) :
  Calls Tryz.prog 197 #[.agg #[.int .i64 a.obj,.int .i64 a.kind,.int .i64 a.off],.agg #[.int .i64 b.obj,.int .i64 b.kind,.int .i64 b.off]] w fun e w'=>e=.returned (.bool (a.less b))∧Below w.heap.size w w':=by
 obtain⟨r,hr⟩:∃r,a.less b=r:=⟨_,rfl⟩
 rw[hr]
 unfold Kd.less at hr
 by_cases h1:a.obj=b.obj
 ·rw[if_pos h1] at hr
  by_cases h2:a.kind=b.kind
  ·rw[if_pos h2] at hr
   go_enter Tryz.func197,Tryz.ntmps197
   go_wp2
   go_ret
   exact⟨by rw[←hr];rfl,(blA).alloc (by simp) _⟩
  ·rw[if_neg h2] at hr
   go_enter Tryz.func197,Tryz.ntmps197
   go_wp2
   go_ret
   exact⟨by rw[←hr];rfl,(blA).alloc (by simp) _⟩
 ·rw[if_neg h1] at hr
  go_enter Tryz.func197,Tryz.ntmps197
  go_wp2
  go_ret
  exact⟨by rw[←hr];rfl,(blA).alloc (by simp) _⟩
theorem q6m (x m:Int)(w:World) :
  Calls Tryz.prog 214 #[.int .i64 x,.int .i64 m] w fun e w'=>e=.returned (.bool (decide (0≤x∧x≤m)))∧w=w':=by
 go_enter Tryz.func214,Tryz.ntmps214
 go_wp2
 all_goals
  go_ret
  refine⟨congrArg (fun x=>Ending.returned (Value.bool x)) ?_,rfl⟩
  first
   |exact (decide_eq_false (by omega)).symm
   |exact decide_eq_decide.2 (by omega)
   |(rw[Bool.eq_iff_iff];simp;omega)
theorem qk0 (k:Kd)(w:World) :
  Calls Tryz.prog 193 #[.agg #[.int .i64 k.obj,.int .i64 k.kind,.int .i64 k.off]] w fun e w'=>e=.returned (.bool k.may)∧Below w.heap.size w w':=by
 obtain⟨b,hb⟩:∃b,k.may=b:=⟨_,rfl⟩
 rw[hb]
 unfold Kd.may at hb
 go_enter Tryz.func193,Tryz.ntmps193
 go_wp2_with fail
 refine (q6m k.obj 2147483647 _).mono ?_
 by_cases h1:0≤k.obj∧k.obj≤2147483647
 ·rw[decide_eq_true h1]
  rintro e w1 ⟨rfl,rfl⟩
  go_wp2_with fail
  refine (q6m k.kind 255 _).mono ?_
  by_cases h2:0≤k.kind∧k.kind≤255
  ·rw[decide_eq_true h2]
   rintro e w1 ⟨rfl,rfl⟩
   go_wp2_with fail
   refine (q6m k.off 2147483647 _).mono ?_
   rintro e w1 ⟨rfl,rfl⟩
   go_wp2
   go_ret
   exact⟨by rw[←hb];exact congrArg (fun x=>Ending.returned (Value.bool x)) (by rw[Bool.eq_iff_iff];simp;omega),blA⟩
  ·rw[decide_eq_false h2]
   rintro e w1 ⟨rfl,rfl⟩
   go_wp2
   go_ret
   exact⟨by rw[←hb];exact congrArg (fun x=>Ending.returned (Value.bool x)) (decide_eq_false (by omega)).symm,blA⟩
 ·rw[decide_eq_false h1]
  rintro e w1 ⟨rfl,rfl⟩
  go_wp2
  go_ret
  exact⟨by rw[←hb];exact congrArg (fun x=>Ending.returned (Value.bool x)) (decide_eq_false (by omega)).symm,blA⟩
theorem q87 (k:Kd)(w:World) :
  Calls Tryz.prog 186 #[.agg #[.int .i64 k.obj,.int .i64 k.kind,.int .i64 k.off]] w fun e w'=>e=.returned (.bool k.may)∧Below w.heap.size w w':=by
 obtain⟨b,hb⟩:∃b,k.may=b:=⟨_,rfl⟩
 rw[hb]
 unfold Kd.may at hb
 go_enter Tryz.func186,Tryz.ntmps186
 go_wp2
 all_goals
  go_ret
  refine⟨?_,blA⟩
  rw[←hb]
  first
   |exact congrArg (fun x=>Ending.returned (Value.bool x)) (decide_eq_false (by omega)).symm
   |exact congrArg (fun x=>Ending.returned (Value.bool x)) (decide_eq_decide.2 (by omega))
theorem pin (l:List UInt8)(x n:Int)(h1:1≤n)(h2:n≤8):putS l x n=l++dig x n.toNat:=if_pos ⟨h1,h2⟩
theorem KB.lt {w:World}{b:Nat}{k:Kd}(H:KB w b k):b<w.heap.size:=by
 obtain⟨t,H⟩:=H
 exact q01 H
theorem KB.there {w:World}{b:Nat}{k:Kd}(H:KB w b k):w.there b 0 3:=fun j hj=>by
 obtain⟨t,H⟩:=H
 refine⟨?_,by unfold World.frozen?;rw[H];simp⟩
 rw[cell_of_row _ _ _ _ _ _ H,Nat.zero_add,Array.getElem?_eq_getElem (by simpa using hj)];rfl
theorem KB.stored {w:World}{b:Nat}{k:Kd}(H:KB w b k)(k2:Kd):KB (w.setCells b 0 k2.vs) b k2:=by
 obtain⟨t,H⟩:=H
 exact⟨t,q0f _ (q0f _ (q0f _ H))⟩
theorem KB.keep {w w':World}{b:Nat}{k:Kd}(H:KB w b k)(h:w'.heap[b]?=w.heap[b]?):KB w' b k:=by
 obtain⟨t,H⟩:=H
 exact⟨t,h.trans H⟩
theorem KB.fz {w:World}{b:Nat}{k:Kd}(H:KB w b k)(i:Nat):w.frozen? ⟨b,i,none⟩=false:=by
 obtain⟨t,H⟩:=H
 unfold World.frozen?
 rw[H]
 simp
theorem KB.set0 {w:World}{b:Nat}{k:Kd}(H:KB w b k)(x:Int):KB (w.setCell ⟨b,0,none⟩ (.int .i64 x)) b ⟨x,k.kind,k.off⟩:=by
 obtain⟨t,H⟩:=H
 exact⟨t,q0f _ H⟩
theorem KB.set1 {w:World}{b:Nat}{k:Kd}(H:KB w b k)(x:Int):KB (w.setCell ⟨b,1,none⟩ (.int .i64 x)) b ⟨k.obj,x,k.off⟩:=by
 obtain⟨t,H⟩:=H
 exact⟨t,q0f _ H⟩
theorem KB.set2 {w:World}{b:Nat}{k:Kd}(H:KB w b k)(x:Int):KB (w.setCell ⟨b,2,none⟩ (.int .i64 x)) b ⟨k.obj,k.kind,x⟩:=by
 obtain⟨t,H⟩:=H
 exact⟨t,q0f _ H⟩
theorem q4x {ops:Array Oper}{rest:List Oper}{o:Oper}{a:Act}{w:World}{Q:Exit→Act→World→Prop}(hg:o.guard=none)(x:Operand)(hop:o.op=Op.load 140 x)
  (b:Nat) (hx:a.eval x=.pointer (some ⟨b,0,none⟩)) (k:Kd) (H:KB w b k) (hK:wpList Tryz.prog ops Q rest (a.put o.dst k.v) w):wpList Tryz.prog ops Q (o::rest) a w:=
 wpList_load_mid hg _ x hop b 0 hx k.vs _ H.range Tryz.underlying140 rfl (by kernel_rfl) hK
theorem q3m {ops:Array Oper}{rest:List Oper}{o:Oper}{a:Act}{w:World}{Q:Exit→Act→World→Prop}(hg:o.guard=none)(x y:Operand)(hop:o.op=Op.store 140 x y)
  (b:Nat) (hx:a.eval x=.pointer (some ⟨b,0,none⟩)) (k k0:Kd) (hy:a.eval y=k.v) (H:KB w b k0)
  (hK:∀w',KB w' b k→Turn (fun g=>g=b) w w'→wpList Tryz.prog ops Q rest (a.put o.dst undef) w'):wpList Tryz.prog ops Q (o::rest) a w:=
 wpList_store_mid hg _ x y hop b 0 k.vs.toArray hx hy H.there (by kernel_rfl) (by simp[Kd.vs,Value.oneCell'])
  (hK _ (H.stored k) (q0d (S:=fun g=>g=b) rfl k.vs 0 w))
theorem Own.keep {w w':World}{base n c:Nat}{e:TypeId}{A:Option Addr}{l:List UInt8}(h:Own w base e A n c l)(hk:∀g,base≤g→g<w.heap.size→w'.heap[g]?=w.heap[g]?):Own w' base e A n c l:=by
 refine⟨h.1,?_⟩
 rcases h.2 with hv|⟨g,cap,cur,hv,h1,hg,r⟩
 ·exact .inl hv
 ·exact .inr ⟨g,cap,cur,hv,h1,(hk g h1 (Array.getElem?_eq_some_iff.1 hg).1).trans hg,r⟩
theorem own_none (w:World)(base:Nat)(e:TypeId):Own w base e none 0 0 []:=⟨by simp,.inl ⟨rfl,rfl⟩⟩
theorem Turn.belowOne {b:Nat}{w w':World}(h:Turn (fun g=>g=b) w w')(hb:b<w.heap.size):Below b w w':=h.below (fun x hx=>by omega) (by omega)
theorem q9u (l:List UInt8)(k:Kd):l++dig k.obj (4:Int).toNat++dig k.kind (1:Int).toNat++dig k.off (4:Int).toNat=l++k.bytes:=by
 unfold Kd.bytes
 rw[List.append_assoc,List.append_assoc]
 rfl
theorem q5r (A:Option Addr)(k c:Nat)(l:List UInt8)(x n:Int)(w:World)(h:Sl w A k c l)(hk:k≤17592186044416)(h1:1≤n)(h2:n≤8) :
  Calls Tryz.prog 174 #[.slice A k c,.int .i64 x,.int .i64 n] w fun e w'=>∃A' n' c',e=.returned (.slice A' n' c')∧Own w' w.heap.size 5 A' n' c' (l++dig x n.toNat)∧n'≤k+8∧Below w.heap.size w w':=by
 have h:=q8i A k c l x n w h hk
 rw[pin _ _ n h1 h2] at h
 refine h.mono ?_
 rintro e w' ⟨A',n',c',rfl,own,hb⟩
 refine⟨A',n',c',rfl,own,?_,hb⟩
 have h3:=own.len
 rw[List.length_append,q0b,(show l.length=k from (by assumption:Sl w A k c l).len)] at h3
 omega
theorem q25 (A:Option Addr)(k c:Nat)(l:List UInt8)(x n:Int)(w:World)(h:Sl w A k c l)(hk:k≤17592186044416)(h1:1≤n)(h2:n≤8) :
  Calls Tryz.prog 124 #[.slice A k c,.int .i64 x,.int .i64 n] w fun e w'=>∃A' n' c',e=.returned (.slice A' n' c')∧Own w' w.heap.size 5 A' n' c' (l++dig x n.toNat)∧n'≤k+8∧Below w.heap.size w w':=by
 have h:=q1f A k c l x n w h hk
 rw[pin _ _ n h1 h2] at h
 refine h.mono ?_
 rintro e w' ⟨A',n',c',rfl,own,hb⟩
 refine⟨A',n',c',rfl,own,?_,hb⟩
 have h3:=own.len
 rw[List.length_append,q0b,(show l.length=k from (by assumption:Sl w A k c l).len)] at h3
 omega
theorem qge (A:Option Addr)(n c:Nat)(l:List UInt8)(k:Kd)(w:World)(h:Sl w A n c l)(hn:n≤4398046511104) :
  Calls Tryz.prog 196 #[.slice A n c,.agg #[.int .i64 k.obj,.int .i64 k.kind,.int .i64 k.off]] w fun e w'=>∃A' n' c',e=.returned (.slice A' n' c')∧Own w' w.heap.size 5 A' n' c' (l++k.bytes)∧Below w.heap.size w w':=by
 have hlen:=Lib.hid h.len
 go_enter Tryz.func196,Tryz.ntmps196
 go_wp2_with fail
 have K1:=KB.new w k.obj k.kind k.off 140
 have h1:=h.alloc (.cells #[.int .i64 k.obj,.int .i64 k.kind,.int .i64 k.off] 140)
 have b1:Below w.heap.size w (w.alloc (.cells #[.int .i64 k.obj,.int .i64 k.kind,.int .i64 k.off] 140)):=blA
 generalize w.alloc (.cells #[.int .i64 k.obj,.int .i64 k.kind,.int .i64 k.off] 140)=w1 at K1 h1 b1 ⊢
 have z1:=K1.lt
 refine (q5r A n c l k.obj 4 w1 h1 (by omega) (by omega) (by omega)).mono ?_
 rintro e w2 ⟨A2,n2,c2,rfl,own2,hn2,hb2⟩
 have K2:=K1.below hb2 z1
 have z2:=K2.lt
 have q1:=K2.c1
 go_wp2_with fail
 refine (q5r A2 n2 c2 _ k.kind 1 w2 own2.sl (by omega) (by omega) (by omega)).mono ?_
 rintro e w3 ⟨A3,n3,c3,rfl,own3,hn3,hb3⟩
 have K3:=K2.below hb3 z2
 have z3:=K3.lt
 have q2:=K3.c2
 clear q1
 go_wp2_with fail
 refine (q5r A3 n3 c3 _ k.off 4 w3 own3.sl (by omega) (by omega) (by omega)).mono ?_
 rw[q9u]
 rintro e w4 ⟨A4,n4,c4,rfl,own4,_,hb4⟩
 have s2:=hb2.size
 have s3:=hb3.size
 have hB3:=b1.trans ((hb2.trans (hb3.mono s2)).mono b1.size)
 have h9:w.heap.size≤w3.heap.size:=hB3.size
 have hB4:=hB3.trans (hb4.mono h9)
 have o5:=own4.less h9
 go_wp2
 go_ret
 exact⟨A4,n4,c4,rfl,o5,hB4⟩
theorem q88 (A:Option Addr)(n c:Nat)(l:List UInt8)(k:Kd)(w:World)(h:Sl w A n c l)(hn:n≤4398046511104) :
  Calls Tryz.prog 126 #[.slice A n c,.agg #[.int .i64 k.obj,.int .i64 k.kind,.int .i64 k.off]] w fun e w'=>∃A' n' c',e=.returned (.slice A' n' c')∧Own w' w.heap.size 5 A' n' c' (l++k.bytes)∧Below w.heap.size w w':=by
 have hlen:=Lib.hid h.len
 go_enter Tryz.func126,Tryz.ntmps126
 go_wp2_with fail
 have K1:=KB.new w k.obj k.kind k.off 140
 have h1:=h.alloc (.cells #[.int .i64 k.obj,.int .i64 k.kind,.int .i64 k.off] 140)
 have b1:Below w.heap.size w (w.alloc (.cells #[.int .i64 k.obj,.int .i64 k.kind,.int .i64 k.off] 140)):=blA
 generalize w.alloc (.cells #[.int .i64 k.obj,.int .i64 k.kind,.int .i64 k.off] 140)=w1 at K1 h1 b1 ⊢
 have z1:=K1.lt
 have s1:=b1.size
 have hS:∀w':World,Below (w.heap.size+1) w1 w'→w'.cell? ⟨w.heap.size,0,none⟩=some (.int .i64 k.obj)∧w'.cell? ⟨w.heap.size,1,none⟩=some (.int .i64 k.kind)∧w'.cell? ⟨w.heap.size,2,none⟩=some (.int .i64 k.off)∧Below (w.heap.size+1) w1 w':=
  fun w' hb=>⟨(K1.below hb (by omega)).c0,(K1.below hb (by omega)).c1,(K1.below hb (by omega)).c2,hb⟩
 have h0:n≤17592186044416:=by omega
 have h14:(1:Int)≤4:=by omega
 have h48:(4:Int)≤8:=by omega
 have h11:(1:Int)≤1:=by omega
 have h18:(1:Int)≤8:=by omega
 have s1':w.heap.size+1≤w1.drew.heap.size:=z1
 have BD:Below (w.heap.size+1) w1 w1.drew:=(Below.refl _ w1).drew
 go_region_held3 (fun w'=>w'.cell? ⟨w.heap.size,0,none⟩=some (.int .i64 k.obj)∧w'.cell? ⟨w.heap.size,1,none⟩=some (.int .i64 k.kind)∧w'.cell? ⟨w.heap.size,2,none⟩=some (.int .i64 k.off)∧Below (w.heap.size+1) w1 w')
  (first|assumption|exact hS _ BD|exact hS _ ‹Below (w.heap.size+1) w1 _›)
  (first
   |(go_at_call 124;refine (q25 A3 n3 c3 _ k.off 4 _ own3.sl h3 h14 h48).mono ?_;rintro e w4 ⟨A4,n4,c4,rfl,own4,hn4,hb4⟩;have bb4:Below (w.heap.size+1) w1 w4:=bb3.trans (hb4.mono (Nat.le_trans s1' bb3.size)))
   |(go_at_call 124;refine (q25 A2 n2 c2 _ k.kind 1 _ own2.sl h2 h11 h18).mono ?_;rintro e w3 ⟨A3,n3,c3,rfl,own3,hn3,hb3⟩;have bb3:Below (w.heap.size+1) w1 w3:=bb2.trans (hb3.mono (Nat.le_trans s1' bb2.size));have h3:n3≤17592186044416:=Nat.le_trans hn3 (by omega))
   |(go_at_call 124;refine (q25 A n c l k.obj 4 _ h1.drew h0 h14 h48).mono ?_;rintro e w2 ⟨A2,n2,c2,rfl,own2,hn2,hb2⟩;have bb2:Below (w.heap.size+1) w1 w2:=BD.trans (hb2.mono s1');have h2:n2≤17592186044416:=Nat.le_trans hn2 (by omega))
   |fail)
 all_goals
  rw[q9u] at own4
  have h9:w.heap.size≤w3.heap.size:=by have:=bb3.size;omega
  have hB4:=b1.trans (bb4.mono (Nat.le_succ w.heap.size))
  have o5:=own4.less h9
  go_wp2
  go_ret
  exact⟨A4,n4,c4,rfl,o5,hB4⟩
def kdOf (l:List UInt8):Kd:=⟨(numL (l.take 4):Int),(numL ((l.drop 4).take 1):Int),(numL ((l.drop 5).take 4):Int)⟩
def ktY (l:List UInt8):Bool:=decide (9≤l.length)&&(kdOf l).may
def ktK (l:List UInt8):Kd:=if ktY l=true then kdOf l else ⟨0,0,0⟩
def ktR (l:List UInt8):List UInt8:=if ktY l=true then l.drop 9 else []
def ktE (l:List UInt8):Int:=if ktY l=true then 0 else if l.length<9 then 2 else 3
theorem qgf {l:List UInt8}(h:l.length<9):ktK l=⟨0,0,0⟩∧ktR l=[]∧ktE l=2:=by
 have hy:ktY l=false:=by unfold ktY;rw[decide_eq_false (by omega)];rfl
 unfold ktK ktR ktE
 rw[hy,if_pos h]
 exact⟨rfl,rfl,rfl⟩
theorem qsr {l:List UInt8}(h:¬l.length<9)(hm:(kdOf l).may=false):ktK l=⟨0,0,0⟩∧ktR l=[]∧ktE l=3:=by
 have hy:ktY l=false:=by unfold ktY;rw[hm,Bool.and_false]
 unfold ktK ktR ktE
 rw[hy,if_neg h]
 exact⟨rfl,rfl,rfl⟩
theorem qk1 {l:List UInt8}(h:¬l.length<9)(hm:(kdOf l).may=true):ktK l=kdOf l∧ktR l=l.drop 9∧ktE l=0:=by
 have hy:ktY l=true:=by unfold ktY;rw[hm,decide_eq_true (by omega)];rfl
 unfold ktK ktR ktE
 rw[hy]
 exact⟨rfl,rfl,rfl⟩
theorem drop54 (l:List UInt8):(l.drop (4:Int).toNat).drop (1:Int).toNat=l.drop 5:=by rw[List.drop_drop];rfl
theorem drop95 (l:List UInt8):(l.drop 5).drop (4:Int).toNat=l.drop 9:=by rw[List.drop_drop];rfl
theorem q6n (A:Option Addr)(k c:Nat)(l:List UInt8)(n:Int)(m:Nat)(w:World)(h:Sl w A k c l)(hk:k≤17592186044416)(h1:1≤n)(h7:n≤7)(hn:n≤(k:Int))(hm:m=k-n.toNat) :
  Calls Tryz.prog 185 #[.slice A k c,.int .i64 n] w fun e w'=>∃A' c',e=.returned (.tuple #[.int .i64 (numL (l.take n.toNat)),.slice A' m c',.int .i64 0])∧Own w' w.heap.size 5 A' m c' (l.drop n.toNat)∧Below w.heap.size w w':=by
 refine (q5z A k c l n w h hk h1 h7 hn).mono ?_
 rintro e w' ⟨A',n',c',rfl,own,hb⟩
 have:=own.len
 rw[List.length_drop,h.len] at this
 obtain rfl:n'=m:=by omega
 exact⟨A',c',rfl,own,hb⟩
theorem q3n (A:Option Addr)(k c:Nat)(l:List UInt8)(n:Int)(m:Nat)(w:World)(h:Sl w A k c l)(hk:k≤17592186044416)(h1:1≤n)(h7:n≤7)(hn:n≤(k:Int))(hm:m=k-n.toNat) :
  Calls Tryz.prog 144 #[.slice A k c,.int .i64 n] w fun e w'=>∃A' c',e=.returned (.tuple #[.int .i64 (numL (l.take n.toNat)),.slice A' m c',.int .i64 0])∧Own w' w.heap.size 5 A' m c' (l.drop n.toNat)∧Below w.heap.size w w':=by
 refine (q1m A k c l n w h hk h1 h7 hn).mono ?_
 rintro e w' ⟨A',n',c',rfl,own,hb⟩
 have:=own.len
 rw[List.length_drop,h.len] at this
 obtain rfl:n'=m:=by omega
 exact⟨A',c',rfl,own,hb⟩
theorem qk2 (A:Option Addr)(n c:Nat)(l:List UInt8)(w:World)(h:Sl w A n c l)(hn:n≤17592186044416) :
  Calls Tryz.prog 183 #[.slice A n c] w fun e w'=>∃A' n' c',e=.returned (.tuple #[(ktK l).v,.slice A' n' c',.int .i64 (ktE l)])∧Own w' w.heap.size 5 A' n' c' (ktR l)∧Below w.heap.size w w':=by
 have hlen:=Lib.hid h.len
 have hB0:∀o,Below w.heap.size w (w.alloc o):=fun o=>(Below.refl _ _).alloc (Nat.le_refl _) o
 by_cases h9:n<9
 ·obtain⟨e1,e2,e3⟩:=qgf (l:=l) (by rw[hlen.out];exact h9)
  rw[e1,e2,e3]
  go_enter Tryz.func183,Tryz.ntmps183
  go_wp2
  refine bodyPost_ret (q44 Tryz.results183 rfl (q4e (KB.new w 0 0 0 _))) rfl ?_
  exact⟨_,_,_,rfl,own_none _ _ _,hB0 _⟩
 ·have hnl:¬l.length<9:=by rw[hlen.out];exact h9
  go_enter Tryz.func183,Tryz.ntmps183
  go_wp2_with fail
  have R2:KB ((w.alloc (.cells #[.int .i64 0,.int .i64 0,.int .i64 0] 140)).alloc (.cells #[.int .i64 0,.int .i64 0,.int .i64 0] 140)) w.heap.size ⟨0,0,0⟩:=(KB.new w 0 0 0 _).below (blA) (by simp)
  have K2:KB ((w.alloc (.cells #[.int .i64 0,.int .i64 0,.int .i64 0] 140)).alloc (.cells #[.int .i64 0,.int .i64 0,.int .i64 0] 140)) (w.heap.size+1) ⟨0,0,0⟩:=by
   have:=KB.new (w.alloc (.cells #[.int .i64 0,.int .i64 0,.int .i64 0] 140)) 0 0 0 140
   rwa [World.size_alloc] at this
  have B2:Below w.heap.size w ((w.alloc (.cells #[.int .i64 0,.int .i64 0,.int .i64 0] 140)).alloc (.cells #[.int .i64 0,.int .i64 0,.int .i64 0] 140)):=(hB0 _).alloc (by simp) _
  generalize (w.alloc (.cells #[.int .i64 0,.int .i64 0,.int .i64 0] 140)).alloc (.cells #[.int .i64 0,.int .i64 0,.int .i64 0] 140)=w2 at R2 K2 B2 ⊢
  have h2:=h.below B2
  have z2:=K2.lt
  refine (q6n A n c l 4 (n-4) w2 h2 hn (by omega) (by omega) (by omega) rfl).mono ?_
  rintro e w3 ⟨A3,c3,rfl,own3,hb3⟩
  have R3:=R2.below hb3 R2.lt
  have K3:=K2.below hb3 z2
  have B3:=B2.trans (hb3.mono B2.size)
  clear R2 K2 h2 hb3
  have q0:=K3.c0
  have f0:=K3.fz 0
  have o3:=own3.less (show w.heap.size+2≤w2.heap.size by omega)
  obtain⟨X,hX⟩:∃X,numL (l.take (4:Int).toNat)=X:=⟨_,rfl⟩
  rw[hX]
  clear own3 z2
  go_wp2_with fail
  have K4:=K3.set0 (X:Int)
  have R4:=R3.keep (w':=w3.setCell ⟨w.heap.size+1,0,none⟩ (.int .i64 (X:Int))) (Below.heap_setCell _ _ _ _ (by show w.heap.size≠w.heap.size+1;omega))
  have o4:=o3.keep (w':=w3.setCell ⟨w.heap.size+1,0,none⟩ (.int .i64 (X:Int))) (fun g hg _=>Below.heap_setCell _ _ _ _ (by show g≠w.heap.size+1;omega))
  have B4:=B3.setCell (p:=⟨w.heap.size+1,0,none⟩) (show w.heap.size≤w.heap.size+1 by omega) (.int .i64 (X:Int))
  clear q0 f0
  generalize w3.setCell ⟨w.heap.size+1,0,none⟩ (.int .i64 (X:Int))=w4 at K4 R4 o4 B4 ⊢
  have z4:=K4.lt
  refine (q6n A3 (n-4) c3 _ 1 (n-5) w4 o4.sl (by omega) (by omega) (by omega) (by omega) rfl).mono ?_
  rw[drop54]
  rintro e w5 ⟨A5,c5,rfl,own5,hb5⟩
  have R5:=R4.below hb5 R4.lt
  have K5:=K4.below hb5 z4
  have B5:=B4.trans (hb5.mono B4.size)
  have q0:=K5.c1
  have f0:=K5.fz 1
  have o5:=own5.less (show w.heap.size+2≤w4.heap.size by omega)
  obtain⟨Y,hY⟩:∃Y,numL ((l.drop (4:Int).toNat).take (1:Int).toNat)=Y:=⟨_,rfl⟩
  rw[hY]
  clear own5 z4 R3 K3 B3 R4 K4 B4 o3 o4 hb5
  go_wp2_with fail
  have K6:=K5.set1 (Y:Int)
  have R6:=R5.keep (w':=w5.setCell ⟨w.heap.size+1,1,none⟩ (.int .i64 (Y:Int))) (Below.heap_setCell _ _ _ _ (by show w.heap.size≠w.heap.size+1;omega))
  have o6:=o5.keep (w':=w5.setCell ⟨w.heap.size+1,1,none⟩ (.int .i64 (Y:Int))) (fun g hg _=>Below.heap_setCell _ _ _ _ (by show g≠w.heap.size+1;omega))
  have B6:=B5.setCell (p:=⟨w.heap.size+1,1,none⟩) (show w.heap.size≤w.heap.size+1 by omega) (.int .i64 (Y:Int))
  clear q0 f0
  generalize w5.setCell ⟨w.heap.size+1,1,none⟩ (.int .i64 (Y:Int))=w6 at K6 R6 o6 B6 ⊢
  have z6:=K6.lt
  refine (q6n A5 (n-5) c5 _ 4 (n-9) w6 o6.sl (by omega) (by omega) (by omega) (by omega) rfl).mono ?_
  rw[drop95]
  rintro e w7 ⟨A7,c7,rfl,own7,hb7⟩
  have R7:=R6.below hb7 R6.lt
  have K7:=K6.below hb7 z6
  have B7:=B6.trans (hb7.mono B6.size)
  have q0:=K7.c2
  have f0:=K7.fz 2
  have o7:=own7.less (show w.heap.size+2≤w6.heap.size by omega)
  obtain⟨U,hU⟩:∃U,numL ((l.drop 5).take (4:Int).toNat)=U:=⟨_,rfl⟩
  rw[hU]
  have hK:kdOf l=⟨(X:Int),(Y:Int),(U:Int)⟩:=by rw[←hX,←hY,←hU];rfl
  clear own7 z6 R5 K5 B5 R6 K6 B6 o5 o6 hb7
  have K8:=K7.set2 (U:Int)
  have R8:=R7.keep (w':=w7.setCell ⟨w.heap.size+1,2,none⟩ (.int .i64 (U:Int))) (Below.heap_setCell _ _ _ _ (by show w.heap.size≠w.heap.size+1;omega))
  have o8:=o7.keep (w':=w7.setCell ⟨w.heap.size+1,2,none⟩ (.int .i64 (U:Int))) (fun g hg _=>Below.heap_setCell _ _ _ _ (by show g≠w.heap.size+1;omega))
  have B8:=B7.setCell (p:=⟨w.heap.size+1,2,none⟩) (show w.heap.size≤w.heap.size+1 by omega) (.int .i64 (U:Int))
  go_wp2_with (first
   |(refine q4x rfl (.tmp 5) rfl (w.heap.size+1) rfl ⟨(X:Int),(Y:Int),(U:Int)⟩ K8 ?_)
   |fail)
  clear q0 f0 K7 R7 o7 B7
  generalize w7.setCell ⟨w.heap.size+1,2,none⟩ (.int .i64 (U:Int))=w8 at K8 R8 o8 B8 ⊢
  have z8:=K8.lt
  refine (qk0 ⟨(X:Int),(Y:Int),(U:Int)⟩ w8).mono ?_
  obtain⟨b,hb⟩:∃b,(⟨(X:Int),(Y:Int),(U:Int)⟩:Kd).may=b:=⟨_,rfl⟩
  have hm:(kdOf l).may=b:=by rw[hK,hb]
  rw[hb]
  cases b
  ·obtain⟨e1,e2,e3⟩:=qsr hnl hm
   rintro e w9 ⟨rfl,hb9⟩
   have R9:=R8.below hb9 R8.lt
   have B9:=B8.trans (hb9.mono B8.size)
   go_wp2_with (first
    |(refine q3m rfl (.tmp 2) (.tmp 34) rfl w.heap.size rfl ⟨0,0,0⟩ _ rfl R9 ?_;intro wz Rz Tz)
    |fail)
   refine bodyPost_ret (q44 Tryz.results183 rfl (q4e Rz)) rfl ?_
   rw[e1,e2,e3]
   exact⟨_,_,_,rfl,own_none _ _ _,B9.trans (Tz.belowOne R9.lt)⟩
  ·obtain⟨e1,e2,e3⟩:=qk1 hnl hm
   rintro e w9 ⟨rfl,hb9⟩
   have R9:=R8.below hb9 R8.lt
   have K9:=K8.below hb9 z8
   have B9:=B8.trans (hb9.mono B8.size)
   have o9:=o8.below hb9
   go_wp2_with (first
    |(refine q4x rfl (.tmp 5) rfl (w.heap.size+1) rfl ⟨(X:Int),(Y:Int),(U:Int)⟩ K9 ?_)
    |(refine q3m rfl (.tmp 2) (.tmp 35) rfl w.heap.size rfl ⟨(X:Int),(Y:Int),(U:Int)⟩ _ rfl R9 ?_;intro wz Rz Tz)
    |fail)
   rw[←hK] at Rz
   refine bodyPost_ret (q44 Tryz.results183 rfl (q4e Rz)) rfl ?_
   rw[e1,e2,e3]
   refine⟨A7,n-9,c7,rfl,?_,B9.trans (Tz.belowOne R9.lt)⟩
   exact (o9.keep fun g hg hl=>Tz.block g hl (by show ¬g=w.heap.size;omega)).less (by omega)
theorem qcj (A:Option Addr)(n c:Nat)(l:List UInt8)(w:World)(h:Sl w A n c l)(hn:n≤17592186044416) :
  Calls Tryz.prog 142 #[.slice A n c] w fun e w'=>∃A' n' c',e=.returned (.tuple #[(ktK l).v,.slice A' n' c',.int .i64 (ktE l)])∧Own w' w.heap.size 5 A' n' c' (ktR l)∧Below w.heap.size w w':=by
 have hlen:=Lib.hid h.len
 have hB0:∀o,Below w.heap.size w (w.alloc o):=fun o=>(Below.refl _ _).alloc (Nat.le_refl _) o
 by_cases h9:n<9
 ·obtain⟨e1,e2,e3⟩:=qgf (l:=l) (by rw[hlen.out];exact h9)
  rw[e1,e2,e3]
  go_enter Tryz.func142,Tryz.ntmps142
  go_wp2
  refine bodyPost_ret (q44 Tryz.results142 rfl (q4e (KB.new w 0 0 0 _))) rfl ?_
  exact⟨_,_,_,rfl,own_none _ _ _,hB0 _⟩
 ·have hnl:¬l.length<9:=by rw[hlen.out];exact h9
  go_enter Tryz.func142,Tryz.ntmps142
  go_wp2_with fail
  have R2:=KB.new w 0 0 0 140
  have B2:Below w.heap.size w (w.alloc (.cells #[.int .i64 0,.int .i64 0,.int .i64 0] 140)):=hB0 _
  generalize w.alloc (.cells #[.int .i64 0,.int .i64 0,.int .i64 0] 140)=w2 at R2 B2 ⊢
  have h2:=h.below B2
  refine (q3n A n c l 4 (n-4) w2 h2 hn (by omega) (by omega) (by omega) rfl).mono ?_
  rintro e w3 ⟨A3,c3,rfl,own3,hb3⟩
  have R3:=R2.below hb3 R2.lt
  have B3:=B2.trans (hb3.mono B2.size)
  obtain⟨X,hX⟩:∃X,numL (l.take (4:Int).toNat)=X:=⟨_,rfl⟩
  rw[hX]
  clear R2 h2 hb3
  go_wp2_with fail
  refine (q3n A3 (n-4) c3 _ 1 (n-5) w3 own3.sl (by omega) (by omega) (by omega) (by omega) rfl).mono ?_
  rw[drop54]
  rintro e w5 ⟨A5,c5,rfl,own5,hb5⟩
  have R5:=R3.below hb5 R3.lt
  have B5:=B3.trans (hb5.mono B3.size)
  obtain⟨Y,hY⟩:∃Y,numL ((l.drop (4:Int).toNat).take (1:Int).toNat)=Y:=⟨_,rfl⟩
  rw[hY]
  clear hb5 own3 R3
  go_wp2_with fail
  have z5:=R5.lt
  refine (q3n A5 (n-5) c5 _ 4 (n-9) w5 own5.sl (by omega) (by omega) (by omega) (by omega) rfl).mono ?_
  rw[drop95]
  rintro e w7 ⟨A7,c7,rfl,own7,hb7⟩
  have R7:=R5.below hb7 z5
  have B7:=B5.trans (hb7.mono B5.size)
  have o7:=own7.less (show w.heap.size+1≤w5.heap.size by omega)
  obtain⟨U,hU⟩:∃U,numL ((l.drop 5).take (4:Int).toNat)=U:=⟨_,rfl⟩
  rw[hU]
  have hK:kdOf l=⟨(X:Int),(Y:Int),(U:Int)⟩:=by rw[←hX,←hY,←hU];rfl
  clear own7 z5 R5 B5 hb7 own5
  have K8:=KB.new w7 (X:Int) (Y:Int) (U:Int) 140
  have b78:Below w7.heap.size w7 (w7.alloc (.cells #[.int .i64 (X:Int),.int .i64 (Y:Int),.int .i64 (U:Int)] 140)):=blA
  go_wp2_with (first
   |(refine q4x rfl (.tmp 12) rfl w7.heap.size rfl ⟨(X:Int),(Y:Int),(U:Int)⟩ K8 ?_)
   |fail)
  have R8:=R7.below b78 R7.lt
  have o8:=o7.below b78
  have B8:=B7.trans (b78.mono B7.size)
  clear R7 o7 B7 b78
  generalize w7.alloc (.cells #[.int .i64 (X:Int),.int .i64 (Y:Int),.int .i64 (U:Int)] 140)=w8 at K8 R8 o8 B8 ⊢
  have z8:=K8.lt
  refine (q87 ⟨(X:Int),(Y:Int),(U:Int)⟩ w8).mono ?_
  obtain⟨b,hb⟩:∃b,(⟨(X:Int),(Y:Int),(U:Int)⟩:Kd).may=b:=⟨_,rfl⟩
  have hm:(kdOf l).may=b:=by rw[hK,hb]
  rw[hb]
  cases b
  ·obtain⟨e1,e2,e3⟩:=qsr hnl hm
   rintro e w9 ⟨rfl,hb9⟩
   have R9:=R8.below hb9 R8.lt
   have B9:=B8.trans (hb9.mono B8.size)
   go_wp2_with (first
    |(refine q3m rfl (.tmp 2) (.tmp 44) rfl w.heap.size rfl ⟨0,0,0⟩ _ rfl R9 ?_;intro wz Rz Tz)
    |fail)
   refine bodyPost_ret (q44 Tryz.results142 rfl (q4e Rz)) rfl ?_
   rw[e1,e2,e3]
   exact⟨_,_,_,rfl,own_none _ _ _,B9.trans (Tz.belowOne R9.lt)⟩
  ·obtain⟨e1,e2,e3⟩:=qk1 hnl hm
   rintro e w9 ⟨rfl,hb9⟩
   have R9:=R8.below hb9 R8.lt
   have K9:=K8.below hb9 z8
   have B9:=B8.trans (hb9.mono B8.size)
   have o9:=o8.below hb9
   go_wp2_with (first
    |(refine q4x rfl (.tmp 12) rfl w7.heap.size rfl ⟨(X:Int),(Y:Int),(U:Int)⟩ K9 ?_)
    |(refine q3m rfl (.tmp 2) (.tmp 45) rfl w.heap.size rfl ⟨(X:Int),(Y:Int),(U:Int)⟩ _ rfl R9 ?_;intro wz Rz Tz)
    |fail)
   rw[←hK] at Rz
   refine bodyPost_ret (q44 Tryz.results142 rfl (q4e Rz)) rfl ?_
   rw[e1,e2,e3]
   refine⟨A7,n-9,c7,rfl,?_,B9.trans (Tz.belowOne R9.lt)⟩
   exact (o9.keep fun g hg hl=>Tz.block g hl (by show ¬g=w.heap.size;omega)).less (by omega)
theorem KB.new2 (w:World)(o:Obj)(x y z:Int)(t:TypeId):KB ((w.alloc o).alloc (.cells #[.int .i64 x,.int .i64 y,.int .i64 z] t)) (w.heap.size+1) ⟨x,y,z⟩:=by
 have:=KB.new (w.alloc o) x y z t
 rwa [World.size_alloc] at this
theorem strB {w:World}{A:Option Addr}{n c:Nat}{l:List UInt8}(h:Sl w A n c l):(convert 30 9 (.slice A n c)).run Tryz.prog w=.ok (.string ⟨l.toArray⟩) w:=
 q59 _ _ _ T22 Tryz.underlying5 Tryz.underlying9 h
theorem qck (a b:Kd)(r:Bool)(h:a.less b=r)(w:World) :
  Calls Tryz.prog 194 #[.agg #[.int .i64 a.obj,.int .i64 a.kind,.int .i64 a.off],.agg #[.int .i64 b.obj,.int .i64 b.kind,.int .i64 b.off]] w fun e w'=>e=.returned (.bool r)∧Below w.heap.size w w':=by
 have:=qns a b w
 rw[h] at this
 exact this
theorem q2y (a:Kd)(r:Bool)(h:a.may=r)(w:World) :
  Calls Tryz.prog 193 #[.agg #[.int .i64 a.obj,.int .i64 a.kind,.int .i64 a.off]] w fun e w'=>e=.returned (.bool r)∧Below w.heap.size w w':=by
 have:=qk0 a w
 rw[h] at this
 exact this
theorem qqt (k:Kd)(hk:k.may=true)(l:List UInt8):kdOf (k.bytes++l)=k:=by
 obtain⟨⟨y1,y2⟩,⟨y3,y4⟩,y5,y6⟩:=(Kd.may_iff k).1 hk
 have e0:k.bytes++l=dig k.obj 4++(dig k.kind 1++(dig k.off 4++l)):=by unfold Kd.bytes;rw[List.append_assoc,List.append_assoc]
 have e1:(k.bytes++l).take 4=dig k.obj 4:=by rw[e0];exact List.take_left' (q0b _ _)
 have e2:(k.bytes++l).drop 4=dig k.kind 1++(dig k.off 4++l):=by rw[e0];exact List.drop_left' (q0b _ _)
 have e3:(k.bytes++l).drop 5=dig k.off 4++l:=by
  rw[show (5:Nat)=4+1 from rfl,←List.drop_drop,e2];exact List.drop_left' (q0b _ _)
 unfold kdOf
 rw[e1,e2,e3,List.take_left' (q0b _ _),List.take_left' (q0b _ _),q7o k.obj 4 y1 (by omega),q7o k.kind 1 y3 (by omega),q7o k.off 4 y5 (by omega)]
theorem qk3 (k:Kd)(hk:k.may=true)(l:List UInt8):ktK (k.bytes++l)=k∧ktR (k.bytes++l)=l∧ktE (k.bytes++l)=0:=by
 have hb:=qqt k hk l
 obtain⟨h1,h2,h3⟩:=qk1 (l:=k.bytes++l) (by rw[List.length_append,Kd.bytes_len];omega) (by rw[hb];exact hk)
 rw[h1,h2,h3,hb]
 exact⟨rfl,List.drop_left' (Kd.bytes_len k),rfl⟩
theorem qcl (a b:Kd)(r:Bool)(h:a.less b=r)(w:World) :
  Calls Tryz.prog 197 #[.agg #[.int .i64 a.obj,.int .i64 a.kind,.int .i64 a.off],.agg #[.int .i64 b.obj,.int .i64 b.kind,.int .i64 b.off]] w fun e w'=>e=.returned (.bool r)∧Below w.heap.size w w':=by
 have:=qeq a b w
 rw[h] at this
 exact this
theorem qcm (a:Kd)(r:Bool)(h:a.may=r)(w:World) :
  Calls Tryz.prog 186 #[.agg #[.int .i64 a.obj,.int .i64 a.kind,.int .i64 a.off]] w fun e w'=>e=.returned (.bool r)∧Below w.heap.size w w':=by
 have:=q87 a w
 rw[h] at this
 exact this
theorem qcn (A:Option Addr)(n c:Nat)(l:List UInt8)(K:Kd)(R:List UInt8)(E:Int)(hK:ktK l=K)(hR:ktR l=R)(hE:ktE l=E)(w:World)(h:Sl w A n c l)(hn:n≤17592186044416) :
  Calls Tryz.prog 183 #[.slice A n c] w fun e w'=>∃A' n' c',e=.returned (.tuple #[.agg #[.int .i64 K.obj,.int .i64 K.kind,.int .i64 K.off],.slice A' n' c',.int .i64 E])∧Own w' w.heap.size 5 A' n' c' R∧Below w.heap.size w w':=by
 have:=qk2 A n c l w h hn
 rw[hK,hR,hE] at this
 exact this
theorem q76 (A:Option Addr)(n c:Nat)(l:List UInt8)(K:Kd)(R:List UInt8)(E:Int)(hK:ktK l=K)(hR:ktR l=R)(hE:ktE l=E)(w:World)(h:Sl w A n c l)(hn:n≤17592186044416) :
  Calls Tryz.prog 142 #[.slice A n c] w fun e w'=>∃A' n' c',e=.returned (.tuple #[.agg #[.int .i64 K.obj,.int .i64 K.kind,.int .i64 K.off],.slice A' n' c',.int .i64 E])∧Own w' w.heap.size 5 A' n' c' R∧Below w.heap.size w w':=by
 have:=qcj A n c l w h hn
 rw[hK,hR,hE] at this
 exact this
def riseOk (ks:List Kd)(i:Nat):Bool:=(keyAt ks i).may&&(decide (i=0)||(keyAt ks (i-1)).less (keyAt ks i))
def rises (ks:List Kd):Bool:=(List.range ks.length).all (riseOk ks)
theorem qgg {ks:List Kd}{j:Nat}(hj:j<ks.length)(h:riseOk ks j=false):rises ks=false:=by
 unfold rises
 rw[List.all_eq_false]
 exact⟨j,List.mem_range.2 hj,by rw[h];simp⟩
theorem qk4 {ks:List Kd}(h:∀j,j<ks.length→riseOk ks j=true):rises ks=true:=by
 unfold rises
 rw[List.all_eq_true]
 exact fun j hj=>h j (List.mem_range.1 hj)
theorem q89 (A:Option Addr)(n c:Nat)(ks:List Kd)(w:World)(h:Keyl w A n c ks)(hn:n≤100000) :
  Calls Tryz.prog 166 #[.slice A n c] w fun e w'=>e=.returned (.bool (rises ks))∧Below w.heap.size w w':=by
 have hlen:=Lib.hid h.len
 go_enter Tryz.func166,Tryz.ntmps166
 go_wp2_with fail
 go_loopw [3,4] (fun i ok wr=>∃j:Nat,j≤n∧i=.int .i64 (j:Int)∧(∀q,q<j→riseOk ks q=true)∧Below w.heap.size w wr) (fun i _ _=>n-(intOf i).toNat)
 case atStart=>exact⟨0,Nat.zero_le _,rfl,fun q hq=>by omega,Below.refl _ _⟩
 case round=>
  obtain⟨j,hj,rfl,hall,hB⟩:=hrel
  by_cases hlt:j<n
  ·have hr:=h.below hB
   obtain⟨g,o,hA,hg,c0,c1,c2⟩:=hr.cell hlt
   subst hA
   obtain⟨b,hb⟩:∃b,keyAt ks j=b:=⟨_,rfl⟩
   rw[hb] at c0 c1 c2
   obtain⟨r,hm⟩:∃r,b.may=r:=⟨_,rfl⟩
   go_wp2_with fail
   refine (qcm b r hm wr).mono ?_
   cases r
   ·rintro e w1 ⟨rfl,hb1⟩
    have hB1:=hB.trans (hb1.mono hB.size)
    go_wp2_with fail
    go_quiet (fail)
    generalize hw2:World.drewN w1 _=w2
    have hB2:Below w.heap.size w w2:=by rw[←hw2];exact q0s hB1 _
    clear hw2
    go_wp2
    go_ret
    have hno:rises ks=false:=qgg (j:=j) (by rw[hlen.out];exact hlt) (by unfold riseOk;rw[hb,hm];rfl)
    exact⟨by rw[hno];rfl,hB2⟩
   ·rintro e w1 ⟨rfl,hb1⟩
    have hB1:=hB.trans (hb1.mono hB.size)
    rcases j with _|q
    ·go_wp2_with fail
     go_quiet (fail)
     generalize hw2:World.drewN w1 _=w2
     have hB2:Below w.heap.size w w2:=by rw[←hw2];exact q0s hB1 _
     clear hw2
     go_wp2
     refine⟨⟨1,by omega,rfl,fun q hq=>?_,hB2⟩,by simp[intOf];omega⟩
     obtain rfl:q=0:=by omega
     unfold riseOk
     rw[hb,hm]
     rfl
    ·obtain⟨g',o',hA',_,a0,a1,a2⟩:=hr.cell (show q<n by omega)
     injection hA' with hA'
     injection hA' with e1 e2
     subst e1 e2
     obtain⟨a,ha⟩:∃a,keyAt ks q=a:=⟨_,rfl⟩
     rw[ha] at a0 a1 a2
     obtain⟨r,hl⟩:∃r,a.less b=r:=⟨_,rfl⟩
     have hok:riseOk ks (q+1)=r:=by
      unfold riseOk
      rw[hb,hm,show q+1-1=q by omega,ha,hl]
      simp
     have hg1:g<w1.heap.size:=by have:=hb1.size;omega
     have hsub:((q+1:Nat):Int)-1=(q:Int):=by omega
     have hq0:(0:Int)≤(q:Int):=by omega
     have hqn:(q:Int)<(n:Int):=by omega
     have hq1:(0:Int)≤((q+1:Nat):Int):=by omega
     have hqn1:((q+1:Nat):Int)<(n:Int):=by omega
     have hq2:(0:Int)≤(q:Int)+1:=by omega
     have hqn2:(q:Int)+1<(n:Int):=by omega
     have hw2:IntKind.i64.wrap (q:Int)=(q:Int):=IntWalk.i64_in _ (by omega)
     have hw3:IntKind.i64.wrap ((q:Int)+1-1)=(q:Int):=by rw[Int.add_sub_cancel];exact hw2
     have hw1:IntKind.i64.wrap (((q+1:Nat):Int)-1)=(q:Int):=by rw[hsub];exact IntWalk.i64_in _ (by omega)
     have d0:=(hb1.cell (p:=⟨g,o+q*3,none⟩) hg).trans a0
     have d1:=(hb1.cell (p:=⟨g,o+q*3+1,none⟩) hg).trans a1
     have d2:=(hb1.cell (p:=⟨g,o+q*3+2,none⟩) hg).trans a2
     have d3:=(hb1.cell (p:=⟨g,o+(q+1)*3,none⟩) hg).trans c0
     have d4:=(hb1.cell (p:=⟨g,o+(q+1)*3+1,none⟩) hg).trans c1
     have d5:=(hb1.cell (p:=⟨g,o+(q+1)*3+2,none⟩) hg).trans c2
     clear a0 a1 a2 c0 c1 c2 hr
     go_wp2_with fail
     have hS:∀w':World,Below w1.heap.size w1 w'→w'.cell? ⟨g,o+q*3,none⟩=some (.int .i64 (a).obj)∧w'.cell? ⟨g,o+q*3+1,none⟩=some (.int .i64 (a).kind)∧w'.cell? ⟨g,o+q*3+2,none⟩=some (.int .i64 (a).off)∧w'.cell? ⟨g,o+(q+1)*3,none⟩=some (.int .i64 (b).obj)∧w'.cell? ⟨g,o+(q+1)*3+1,none⟩=some (.int .i64 (b).kind)∧w'.cell? ⟨g,o+(q+1)*3+2,none⟩=some (.int .i64 (b).off)∧Below w1.heap.size w1 w':=
      fun w' hb=>⟨(hb.cell (p:=⟨g,_,none⟩) hg1).trans d0,(hb.cell (p:=⟨g,_,none⟩) hg1).trans d1,(hb.cell (p:=⟨g,_,none⟩) hg1).trans d2,(hb.cell (p:=⟨g,_,none⟩) hg1).trans d3,(hb.cell (p:=⟨g,_,none⟩) hg1).trans d4,(hb.cell (p:=⟨g,_,none⟩) hg1).trans d5,hb⟩
     have BD:Below w1.heap.size w1 w1.drew:=(Below.refl _ w1).drew
     go_region_held3 (fun w'=>w'.cell? ⟨g,o+q*3,none⟩=some (.int .i64 (a).obj)∧w'.cell? ⟨g,o+q*3+1,none⟩=some (.int .i64 (a).kind)∧w'.cell? ⟨g,o+q*3+2,none⟩=some (.int .i64 (a).off)∧w'.cell? ⟨g,o+(q+1)*3,none⟩=some (.int .i64 (b).obj)∧w'.cell? ⟨g,o+(q+1)*3+1,none⟩=some (.int .i64 (b).kind)∧w'.cell? ⟨g,o+(q+1)*3+2,none⟩=some (.int .i64 (b).off)∧Below w1.heap.size w1 w')
      (first|assumption|exact hS _ BD|exact hS _ bb2)
      (first
       |(go_at_call 197;refine (qcl a b r hl _).mono ?_;rintro e w2 ⟨rfl,hb2⟩;have bb2:Below w1.heap.size w1 w2:=BD.trans (hb2.mono (Nat.le_refl w1.heap.size)))
       |fail)
     all_goals
      have hB2:=hB1.trans (bb2.mono hB1.size)
      clear hS BD
      cases r
      ·go_wp2
       go_ret
       have hno:rises ks=false:=qgg (j:=q+1) (by rw[hlen.out];exact hlt) hok
       exact⟨by rw[hno];rfl,hB2⟩
      ·go_wp2
       refine⟨⟨q+2,by omega,by go_num,fun p hp=>?_,hB2⟩,by simp[intOf];omega⟩
       rcases (by omega:p<q+1∨p=q+1) with h1|rfl
       ·exact hall p h1
       ·exact hok
  ·obtain rfl:j=n:=by omega
   go_wp2
   go_ret
   have hyes:rises ks=true:=qk4 fun i hi=>hall i (by rw[hlen.out] at hi;exact hi)
   exact⟨by rw[hyes];rfl,hB⟩
end Go.Proofs.YtipejjgodnnkaaaGreatDoor
