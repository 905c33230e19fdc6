/- Superblocks: loads, stores and comparisons of this program; the code's within and digit; w -/
import Derived.Test.YtipejjgodnnkaaaGreatDoorGrown
import Derived.Test.YtipejjgodnnkaaaGreatDoorPm8
namespace Go.Proofs.YtipejjgodnnkaaaGreatDoor
open Go Go.RowKit Go.Proofs
set_option maxHeartbeats 2000000
set_option maxRecDepth 10000
section
variable {w:World}{b:Nat}{S:Sp}{v:Vl}
theorem la_sp (H:SB w b S):(Instr.loadAt 56 (.pointer (some ⟨b,0,none⟩))).run Tryz.prog w=.ok (.agg S.vs.toArray) w:=
 run_loadAt_mid w b 0 56 S.vs _ H.range Tryz.underlying56 rfl (by rw[S.vs_len];kernel_rfl)
theorem la_va (H:SB w b S):(Instr.loadAt 54 (.pointer (some ⟨b,3,none⟩))).run Tryz.prog w=.ok (.agg (S.vols.flatMap Vl.vs).toArray) w:=
 run_loadAt_mid w b 3 54 (S.vols.flatMap Vl.vs) _ H.vols Tryz.underlying54 rfl (by rw[qmv,S.len];kernel_rfl)
theorem q7y {α:Type}:∀{l:List α},l.length=8→∃a b c d e f g h,l=[a,b,c,d,e,f,g,h]
 |[a,b,c,d,e,f,g,h],_=>⟨a,b,c,d,e,f,g,h,rfl⟩
theorem qtv (S:Sp){k:Nat}(hk:k<8)(w:World):(Instr.index 54 (.agg (S.vols.flatMap Vl.vs).toArray) (.int .i64 (k:Int))).run Tryz.prog w=.ok (.agg #[.string (S.at_ k).name,.bool (S.at_ k).ro,.int .i64 (S.at_ k).root,.int .i64 (S.at_ k).next]) w:=by
 unfold Sp.at_
 obtain⟨a,b,c,d,e,f,g,h,hl⟩:=q7y S.len
 rw[hl]
 match k,hk with
 |0,_=>show (Instr.index 54 _ (.int .i64 0)).run Tryz.prog w=_;kernel_rfl
 |1,_=>show (Instr.index 54 _ (.int .i64 1)).run Tryz.prog w=_;kernel_rfl
 |2,_=>show (Instr.index 54 _ (.int .i64 2)).run Tryz.prog w=_;kernel_rfl
 |3,_=>show (Instr.index 54 _ (.int .i64 3)).run Tryz.prog w=_;kernel_rfl
 |4,_=>show (Instr.index 54 _ (.int .i64 4)).run Tryz.prog w=_;kernel_rfl
 |5,_=>show (Instr.index 54 _ (.int .i64 5)).run Tryz.prog w=_;kernel_rfl
 |6,_=>show (Instr.index 54 _ (.int .i64 6)).run Tryz.prog w=_;kernel_rfl
 |7,_=>show (Instr.index 54 _ (.int .i64 7)).run Tryz.prog w=_;kernel_rfl
end
theorem qfz {α:Type}(L:List α)(o:Nat)(v:α)(r:List α)(h:o<L.length):splice (L.set o v) (o+1) r=splice L o (v::r):=by
 unfold splice
 have e1:(L.set o v).take (o+1)=L.take o++[v]:=by
  rw[List.take_succ_eq_append_getElem (by simpa using h),List.take_set_of_le (Nat.le_refl _),List.getElem_set_self]
 have e2:(L.set o v).drop (o+1+r.length)=L.drop (o+(v::r).length):=by
  rw[List.drop_set_of_lt (by omega),List.length_cons]
  congr 1
  omega
 rw[e1,e2,List.append_assoc]
 rfl
theorem q0h (b:Nat)(t:TypeId):∀(vs:List Value) (o:Nat) (w:World) (L:List Value),w.heap[b]?=some (.cells L.toArray t (0,0))→o+vs.length≤L.length→
  (w.setCells b o vs).heap[b]?=some (.cells (splice L o vs).toArray t (0,0))
 |[],o,w,L,H,_=>by
  unfold splice
  simpa [World.setCells] using H
 |v::r,o,w,L,H,hl=>by
  have hl':o+(r.length+1)≤L.length:=by simpa using hl
  have h1:=heap_setCell_same w b o L.toArray t v H
  rw[show L.toArray.setIfInBounds o v=(L.set o v).toArray by simp] at h1
  have h2:=q0h b t r (o+1) (w.setCell ⟨b,o,none⟩ v) (L.set o v) h1 (by rw[List.length_set];omega)
  rw[qfz L o v r (by omega)] at h2
  exact h2
theorem q24 {α:Type}(L C:List α)(h:L.length=C.length):splice L 0 C=C:=by
 unfold splice
 rw[List.take_zero,List.nil_append,List.drop_of_length_le (by omega),List.append_nil]
theorem q03 {ops:Array Oper}{rest:List Oper}{o:Oper}{a:Act}{w:World}{Q:Exit→Act→World→Prop}(hg:o.guard=none)(x y:Operand)(hop:o.op=Op.store 56 x y)
  (b:Nat) (hx:a.eval x=.pointer (some ⟨b,0,none⟩)) (S S0:Sp) (hy:a.eval y=.agg S.vs.toArray) (H:SB w b S0)
  (hK:∀w',SB w' b S→(∀B,B≤b→Below B w w')→Turn (fun k=>k=b) w w'→wpList Tryz.prog ops Q rest (a.put o.dst undef) w'):wpList Tryz.prog ops Q (o::rest) a w:=by
 have ht:w.there b 0 S.vs.toArray.size:=by rw[List.size_toArray,S.vs_len];exact H.there
 refine wpList_store_mid hg _ x y hop b 0 S.vs.toArray hx hy ht (by rw[List.size_toArray,S.vs_len];kernel_rfl) (all_oneCell_toArray S.one) ?_
 have T:=q0d (S:=fun k=>k=b) rfl S.vs 0 w
 refine hK _ ?_ (fun B hB=>T.below (fun x hx=>by omega) (by have:=H.lt;omega)) T
 obtain⟨t,H⟩:=H
 have e:=q0h b t S.vs 0 w S0.vs H (by rw[S.vs_len,S0.vs_len];omega)
 rw[q24 _ _ (by rw[S.vs_len,S0.vs_len])] at e
 exact⟨t,e⟩
theorem qg0 {ops:Array Oper}{rest:List Oper}{o:Oper}{a:Act}{w:World}{Q:Exit→Act→World→Prop}(hg:o.guard=none)(x y:Operand)(hop:o.op=Op.store 32 x y)
  (b k:Nat) (hk:k<8) (hx:a.eval x=.pointer (some ⟨b,3+4*k,none⟩)) (v:Vl) (S:Sp) (hy:a.eval y=v.v) (H:SB w b S)
  (hK:∀w',SB w' b (S.setV k v)→(∀B,B≤b→Below B w w')→Turn (fun k=>k=b) w w'→wpList Tryz.prog ops Q rest (a.put o.dst undef) w'):wpList Tryz.prog ops Q (o::rest) a w:=by
 have ht:w.there b (3+4*k) v.vs.toArray.size:=fun j hj=>by
  have:=H.there (3+4*k+j) (by have:j<4:=hj;omega)
  rwa [Nat.zero_add] at this
 refine wpList_store_mid hg _ x y hop b (3+4*k) v.vs.toArray hx hy ht (by kernel_rfl) (all_oneCell_toArray (by simp[Vl.vs,Value.oneCell'])) ?_
 have T:=q0d (S:=fun k=>k=b) rfl v.vs (3+4*k) w
 refine hK _ ?_ (fun B hB=>T.below (fun x hx=>by omega) (by have:=H.lt;omega)) T
 obtain⟨t,H⟩:=H
 have e:=q0h b t v.vs (3+4*k) w S.vs H (by rw[S.vs_len,vs_len];omega)
 rw[←S.vs_set hk] at e
 exact⟨t,e⟩
theorem qg1 {ops:Array Oper}{rest:List Oper}{o:Oper}{a:Act}{w:World}{Q:Exit→Act→World→Prop}(hg:o.guard=none)(x y:Operand)(hop:o.op=Op.store 32 x y)
  (b:Nat) (hx:a.eval x=.pointer (some ⟨b,0,none⟩)) (v v0:Vl) (hy:a.eval y=v.v) (H:VB w b v0)
  (hK:∀w',VB w' b v→(∀B,B≤b→Below B w w')→Turn (fun k=>k=b) w w'→wpList Tryz.prog ops Q rest (a.put o.dst undef) w'):wpList Tryz.prog ops Q (o::rest) a w:=by
 refine wpList_store_mid hg _ x y hop b 0 v.vs.toArray hx hy H.there (by kernel_rfl) (all_oneCell_toArray (by simp[Vl.vs,Value.oneCell'])) ?_
 have T:=q0d (S:=fun k=>k=b) rfl v.vs 0 w
 refine hK _ ?_ (fun B hB=>T.below (fun x hx=>by omega) (by have:=H.lt;omega)) T
 obtain⟨t,H⟩:=H
 have e:=q0h b t v.vs 0 w v0.vs H (by rw[vs_len,vs_len];omega)
 rw[q24 v0.vs v.vs rfl] at e
 exact⟨t,e⟩
theorem qjm {ops:Array Oper}{rest:List Oper}{o:Oper}{a:Act}{w:World}{Q:Exit→Act→World→Prop}(hg:o.guard=none)(x:Operand)(hop:o.op=Op.load 54 x)
  (b:Nat) (hx:a.eval x=.pointer (some ⟨b,3,none⟩)) (S:Sp) (H:SB w b S) (hK:wpList Tryz.prog ops Q rest (a.put o.dst (.agg (S.vols.flatMap Vl.vs).toArray)) w):wpList Tryz.prog ops Q (o::rest) a w:=
 wpList_load_mid hg _ x hop b 3 hx (S.vols.flatMap Vl.vs) _ H.vols Tryz.underlying54 rfl (by rw[qmv,S.len];kernel_rfl) hK
theorem qhq (d:Nat)(a b:Vl)(w:World):(Op.equalIn (d+2) 32 a.v b.v).run Tryz.prog w=.ok (a.same b) w:=by
 unfold Vl.v
 rw[run_equalIn_agg w (d+1) 32 _ _ (by kernel_rfl) (by kernel_rfl)]
 unfold Program.fieldsOf
 rw[Tryz.underlying32]
 simp[go_sem,Tryz.underlying3,Tryz.underlying9,Tryz.underlying4]
 unfold Vl.same
 by_cases h1:a.name.toList=b.name.toList
 ·by_cases h2:a.ro=b.ro
  ·by_cases h3:a.root=b.root
   ·by_cases h4:a.next=b.next
    ·simp[h1,h2,h3,h4]
    ·simp[h1,h2,h3,h4]
   ·simp[h1,h2,h3]
  ·simp[h1,h2]
 ·simp[h1]
theorem qtw (a b:Vl)(r:Bool)(h:a.same b=r)(w:World):(binOp .eql 32 (.agg #[.string a.name,.bool a.ro,.int .i64 a.root,.int .i64 a.next]) (.agg #[.string b.name,.bool b.ro,.int .i64 b.root,.int .i64 b.next])).run Tryz.prog w=.ok (.bool r) w:=by
 rw[run_eql_struct]
 have:=qhq 9998 a b w
 unfold Vl.v at this
 rw[this,h]
 rfl
theorem qtx (a b:Vl)(r:Bool)(h:a.same b=r)(w:World):(binOp .neq 32 (.agg #[.string a.name,.bool a.ro,.int .i64 a.root,.int .i64 a.next]) (.agg #[.string b.name,.bool b.ro,.int .i64 b.root,.int .i64 b.next])).run Tryz.prog w=.ok (.bool (!r)) w:=by
 rw[run_neq_struct]
 have:=qhq 9998 a b w
 unfold Vl.v at this
 rw[this,h]
 rfl
theorem qaq (l:List UInt8)(k:Nat)(hk:k<l.length)(w:World):(Go.part 5 (l.map bv).toArray (k*1)).run Tryz.prog w=.ok (bv (l.getD k 0)) w:=by
 refine run_part_plain w (by kernel_rfl) ?_
 rw[Nat.mul_one]
 simp[List.getD,hk]
theorem q6f (d:Nat)(l m:List UInt8)(w:World):∀is:List Nat,(∀i∈is,i<l.length∧i<m.length)→(Op.eqItems (d+1) 5 1 (l.map bv).toArray (m.map bv).toArray is).run Tryz.prog w=.ok (is.all fun i=>l.getD i 0==m.getD i 0) w
 |[],_=>rfl
 |i::is,h=>by
  obtain⟨h1,h2⟩:=h i (List.mem_cons_self ..)
  have ih:=q6f d l m w is fun j hj=>h j (List.mem_cons_of_mem _ hj)
  have e:(Op.equalIn (d+1) 5 (bv (l.getD i 0)) (bv (m.getD i 0))).run Tryz.prog w=.ok (l.getD i 0==m.getD i 0) w:=by
   unfold bv
   rw[run_equalIn_int w d 5 .u8 .u8 _ _ Tryz.underlying5]
   congr 1
   rw[Bool.eq_iff_iff,beq_iff_eq,beq_iff_eq]
   exact⟨fun h=>UInt8.toNat_inj.1 (by omega),fun h=>by rw[h]⟩
  simp only[Op.eqItems,Sem.run_bind,qaq l i h1 w,qaq m i h2 w,e,Result.andThen_ok,List.all_cons]
  cases l.getD i 0==m.getD i 0
  ·simp
  ·simpa using ih
theorem qty (l m:List UInt8)(n:Nat)(h1:l.length=n)(h2:m.length=n):((List.range n).all fun i=>l.getD i 0==m.getD i 0)=decide (l=m):=by
 rw[Bool.eq_iff_iff,List.all_eq_true,decide_eq_true_eq]
 constructor
 ·intro h
  refine List.ext_getElem (by omega) fun i hi hj=>?_
  have:=h i (List.mem_range.2 (by omega))
  simpa [List.getD,hi,hj] using this
 ·rintro rfl i _
  simp
theorem qnb (l m:List UInt8)(h1:l.length=256)(h2:m.length=256)(r:Bool)(hr:decide (l=m)=r)(w:World):(binOp .neq 124 (.agg (l.map bv).toArray) (.agg (m.map bv).toArray)).run Tryz.prog w=.ok (.bool (!r)) w:=by
 have hi:∃i,Tryz.prog.info? 5=some i∧Tryz.prog.cellsOf 5=1:=(Option.isSome_iff_exists.1 (show (Tryz.prog.info? 5).isSome=true by kernel_rfl)).elim fun i hi=>⟨i,hi,by kernel_rfl⟩
 obtain⟨i,hi,hc⟩:=hi
 rw[run_neq_struct,run_equalIn_array w 9999 _ _ Tryz.underlying124 hi,hc,q6f 9998 l m w _ (fun i hi=>by have:=List.mem_range.1 hi;omega),qty l m 256 h1 h2,hr]
 rfl
theorem q0v (x a b:Int)(r:Bool)(h:decide (a≤x∧x≤b)=r)(w:World) :
  Calls Tryz.prog 112 #[.int .i64 x,.int .i64 a,.int .i64 b] w fun e w'=>e=.returned (.bool r)∧w=w':=by
 subst h
 go_enter Tryz.func112,Tryz.ntmps112
 go_wp2
 all_goals
  go_ret
  refine⟨congrArg (fun x=>Ending.returned (Value.bool x)) ?_,rfl⟩
  first
   |exact (decide_eq_false (by omega)).symm
   |exact decide_eq_decide.2 (by omega)
   |(rw[Bool.eq_iff_iff];simp;omega)
def dgt (b:Bool):Int:=if b=true then 1 else 0
theorem qjn (b:Bool)(w:World) :
  Calls Tryz.prog 226 #[.bool b] w fun e w'=>e=.returned (.int .i64 (dgt b))∧w=w':=by
 cases b
 all_goals
  go_enter Tryz.func226,Tryz.ntmps226
  go_wp2
  go_ret
  exact⟨rfl,rfl⟩
def labC (c:Nat):Bool:=decide ((97≤c∧c≤122)∨(48≤c∧c≤57)∨c=45)
def labA (s:ByteArray):Bool:=(List.range s.size).all fun j=>labC (byt s.data.toList j)
def labL (s:ByteArray):Bool:=labA s&&decide (1≤s.size∧s.size≤10)
theorem qqj {s:ByteArray}{j:Nat}(hj:j<s.size)(h:labC (byt s.data.toList j)=false):labL s=false:=by
 have:labA s=false:=by
  unfold labA
  rw[List.all_eq_false]
  exact⟨j,List.mem_range.2 hj,by rw[h];simp⟩
 unfold labL
 rw[this,Bool.false_and]
theorem qnc {s:ByteArray}(h:∀j,j<s.size→labC (byt s.data.toList j)=true):labL s=decide (1≤s.size∧s.size≤10):=by
 have:labA s=true:=by
  unfold labA
  rw[List.all_eq_true]
  exact fun j hj=>h j (List.mem_range.1 hj)
 unfold labL
 rw[this,Bool.true_and]
theorem qnd (s:ByteArray)(k:Nat)(hk:k<s.size)(w:World):(Instr.index 9 (.string s) (.int .i64 (k:Int))).run Tryz.prog w=.ok (.int .u8 (byt s.data.toList k:Int)) w:=by
 rw[run_index_string w 9 s .i64 _ Tryz.underlying9,dif_pos (by omega)]
 congr 3
 unfold byt
 rw[List.getD_eq_getElem?_getD,List.getElem?_eq_getElem (by simpa using hk)]
 simp[ByteArray.getElem_eq_getElem_data]
theorem q74 (s:ByteArray)(r:Bool)(hr:labL s=r)(w:World)(hm:s.size≤maxLen) :
  Calls Tryz.prog 170 #[.string s] w fun e w'=>e=.returned (.bool r)∧w=w':=by
 subst hr
 unfold maxLen at hm
 go_enter Tryz.func170,Tryz.ntmps170
 go_wp2_with fail
 go_loop [7] (fun i=>∃k:Nat,k≤s.size∧i=.int .i64 (k:Int)∧∀j<k,labC (byt s.data.toList j)=true) (fun i=>s.size-(intOf i).toNat)
 case atStart=>exact⟨0,Nat.zero_le _,rfl,fun j hj=>by omega⟩
 case round=>
  obtain⟨k,hk,rfl,hin⟩:=hrel
  by_cases hlt:k<s.size
  ·have hix:=qnd s k hlt
   have hno:=fun h=>qqj (s:=s) (j:=k) hlt h
   obtain⟨c,hc⟩:∃c,byt s.data.toList k=c:=⟨_,rfl⟩
   have hle:=q39 s.data.toList k
   rw[hc] at hix hno hle
   have Hno:=Lib.hid hno
   have next:labC c=true→∀j<k+1,labC (byt s.data.toList j)=true:=fun h j hj=>by
    by_cases hjk:j=k
    ·rw[hjk,hc];exact h
    ·exact hin j (by omega)
   have Next:=Lib.hid next
   have hk0:(0:Int)≤(k:Int):=by omega
   clear hno next hin hc
   rcases (by omega:(97≤c∧c≤122)∨122<c∨(57<c∧c<97)∨(48≤c∧c≤57)∨(c<48∧c≠45)∨c=45) with h|h|h|h|h|h
   ·have d0:decide ((c:Int)<97)=false:=decide_eq_false (by omega)
    have d1:decide (122<(c:Int))=false:=decide_eq_false (by omega)
    have d2:decide ((c:Int)<48)=false:=decide_eq_false (by omega)
    have d3:decide (57<(c:Int))=true:=decide_eq_true (by omega)
    go_wp2
    exact⟨⟨k+1,by omega,by go_num,Next.out (decide_eq_true (by omega))⟩,by simp[intOf];omega⟩
   ·have d0:decide ((c:Int)<97)=false:=decide_eq_false (by omega)
    have d1:decide (122<(c:Int))=true:=decide_eq_true (by omega)
    have d2:decide ((c:Int)<48)=false:=decide_eq_false (by omega)
    have d3:decide (57<(c:Int))=true:=decide_eq_true (by omega)
    have h45:¬(c:Int)=45:=by omega
    go_wp2
    go_ret
    exact⟨by rw[Hno.out (decide_eq_false (by omega))];rfl,rfl⟩
   ·have d0:decide ((c:Int)<97)=true:=decide_eq_true (by omega)
    have d1:decide (122<(c:Int))=false:=decide_eq_false (by omega)
    have d2:decide ((c:Int)<48)=false:=decide_eq_false (by omega)
    have d3:decide (57<(c:Int))=true:=decide_eq_true (by omega)
    have h45:¬(c:Int)=45:=by omega
    go_wp2
    go_ret
    exact⟨by rw[Hno.out (decide_eq_false (by omega))];rfl,rfl⟩
   ·have d0:decide ((c:Int)<97)=true:=decide_eq_true (by omega)
    have d1:decide (122<(c:Int))=false:=decide_eq_false (by omega)
    have d2:decide ((c:Int)<48)=false:=decide_eq_false (by omega)
    have d3:decide (57<(c:Int))=false:=decide_eq_false (by omega)
    go_wp2
    exact⟨⟨k+1,by omega,by go_num,Next.out (decide_eq_true (by omega))⟩,by simp[intOf];omega⟩
   ·have d0:decide ((c:Int)<97)=true:=decide_eq_true (by omega)
    have d1:decide (122<(c:Int))=false:=decide_eq_false (by omega)
    have d2:decide ((c:Int)<48)=true:=decide_eq_true (by omega)
    have d3:decide (57<(c:Int))=false:=decide_eq_false (by omega)
    have h45:¬(c:Int)=45:=by omega
    go_wp2
    go_ret
    exact⟨by rw[Hno.out (decide_eq_false (by omega))];rfl,rfl⟩
   ·subst h
    go_wp2
    exact⟨⟨k+1,by omega,by go_num,Next.out (by decide)⟩,by simp[intOf];omega⟩
  ·have hks:k=s.size:=by omega
   have hlab:=Lib.hid (qnc (s:=s) (by rw[←hks];exact hin))
   clear hks hin
   go_wp2_with fail
   refine (q0v (s.size:Int) 1 10 _ rfl w).mono ?_
   rintro e w2 ⟨rfl,rfl⟩
   go_wp2
   go_ret
   exact⟨by rw[hlab.out];exact congrArg (fun x=>Ending.returned (Value.bool x)) (by rw[Bool.eq_iff_iff];simp;omega),rfl⟩
theorem qeg (s:ByteArray)(r:Bool)(hr:labL s=r)(w:World)(hm:s.size≤maxLen) :
  Calls Tryz.prog 169 #[.string s] w fun e w'=>e=.returned (.bool r)∧w=w':=by
 subst hr
 unfold maxLen at hm
 go_enter Tryz.func169,Tryz.ntmps169
 go_wp2_with fail
 go_loop [3] (fun i=>∃k:Nat,k≤s.size∧i=.int .i64 (k:Int)∧∀j<k,labC (byt s.data.toList j)=true) (fun i=>s.size-(intOf i).toNat)
 case atStart=>exact⟨0,Nat.zero_le _,rfl,fun j hj=>by omega⟩
 case round=>
  obtain⟨k,hk,rfl,hin⟩:=hrel
  by_cases hlt:k<s.size
  ·have hix:=qnd s k hlt
   have hno:=fun h=>qqj (s:=s) (j:=k) hlt h
   obtain⟨c,hc⟩:∃c,byt s.data.toList k=c:=⟨_,rfl⟩
   have hle:=q39 s.data.toList k
   rw[hc] at hix hno hle
   have Hno:=Lib.hid hno
   have next:labC c=true→∀j<k+1,labC (byt s.data.toList j)=true:=fun h j hj=>by
    by_cases hjk:j=k
    ·rw[hjk,hc];exact h
    ·exact hin j (by omega)
   have Next:=Lib.hid next
   have hk0:(0:Int)≤(k:Int):=by omega
   clear hno next hin hc
   rcases (by omega:(97≤c∧c≤122)∨122<c∨(57<c∧c<97)∨(48≤c∧c≤57)∨(c<48∧c≠45)∨c=45) with h|h|h|h|h|h
   ·have d0:decide ((c:Int)<97)=false:=decide_eq_false (by omega)
    have d1:decide (122<(c:Int))=false:=decide_eq_false (by omega)
    have d2:decide ((c:Int)<48)=false:=decide_eq_false (by omega)
    have d3:decide (57<(c:Int))=true:=decide_eq_true (by omega)
    go_wp2
    exact⟨⟨k+1,by omega,by go_num,Next.out (decide_eq_true (by omega))⟩,by simp[intOf];omega⟩
   ·have d0:decide ((c:Int)<97)=false:=decide_eq_false (by omega)
    have d1:decide (122<(c:Int))=true:=decide_eq_true (by omega)
    have d2:decide ((c:Int)<48)=false:=decide_eq_false (by omega)
    have d3:decide (57<(c:Int))=true:=decide_eq_true (by omega)
    have h45:¬(c:Int)=45:=by omega
    go_wp2
    go_ret
    exact⟨by rw[Hno.out (decide_eq_false (by omega))];rfl,rfl⟩
   ·have d0:decide ((c:Int)<97)=true:=decide_eq_true (by omega)
    have d1:decide (122<(c:Int))=false:=decide_eq_false (by omega)
    have d2:decide ((c:Int)<48)=false:=decide_eq_false (by omega)
    have d3:decide (57<(c:Int))=true:=decide_eq_true (by omega)
    have h45:¬(c:Int)=45:=by omega
    go_wp2
    go_ret
    exact⟨by rw[Hno.out (decide_eq_false (by omega))];rfl,rfl⟩
   ·have d0:decide ((c:Int)<97)=true:=decide_eq_true (by omega)
    have d1:decide (122<(c:Int))=false:=decide_eq_false (by omega)
    have d2:decide ((c:Int)<48)=false:=decide_eq_false (by omega)
    have d3:decide (57<(c:Int))=false:=decide_eq_false (by omega)
    go_wp2
    exact⟨⟨k+1,by omega,by go_num,Next.out (decide_eq_true (by omega))⟩,by simp[intOf];omega⟩
   ·have d0:decide ((c:Int)<97)=true:=decide_eq_true (by omega)
    have d1:decide (122<(c:Int))=false:=decide_eq_false (by omega)
    have d2:decide ((c:Int)<48)=true:=decide_eq_true (by omega)
    have d3:decide (57<(c:Int))=false:=decide_eq_false (by omega)
    have h45:¬(c:Int)=45:=by omega
    go_wp2
    go_ret
    exact⟨by rw[Hno.out (decide_eq_false (by omega))];rfl,rfl⟩
   ·subst h
    go_wp2
    exact⟨⟨k+1,by omega,by go_num,Next.out (by decide)⟩,by simp[intOf];omega⟩
  ·have hks:k=s.size:=by omega
   have hlab:=Lib.hid (qnc (s:=s) (by rw[←hks];exact hin))
   clear hks hin
   by_cases h1:1≤s.size
   ·go_wp2
    go_ret
    exact⟨by rw[hlab.out];exact congrArg (fun x=>Ending.returned (Value.bool x)) (by rw[Bool.eq_iff_iff];simp;omega),rfl⟩
   ·go_wp2
    go_ret
    exact⟨by rw[hlab.out];exact congrArg (fun x=>Ending.returned (Value.bool x)) (by rw[Bool.eq_iff_iff];simp;omega),rfl⟩
end Go.Proofs.YtipejjgodnnkaaaGreatDoor
