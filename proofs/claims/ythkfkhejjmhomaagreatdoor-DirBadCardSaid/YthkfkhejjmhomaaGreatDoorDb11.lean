/- A superblock as plain data: its cells, the blocks that hold one, or a subvolume; what a la -/
import Derived.Test.YthkfkhejjmhomaaGreatDoorDb9
import Derived.DeepKeys
namespace Go.Proofs.YthkfkhejjmhomaaGreatDoor
open Go Go.RowKit Go.Proofs
set_option maxHeartbeats 2000000
set_option maxRecDepth 10000
structure Vl where
 name:ByteArray
 ro:Bool
 root:Int
 next:Int
def Vl.vs (v:Vl):List Value:=[.string v.name,.bool v.ro,.int .i64 v.root,.int .i64 v.next]
def Vl.v (v:Vl):Value:=.agg #[.string v.name,.bool v.ro,.int .i64 v.root,.int .i64 v.next]
def Vl.zero:Vl:=⟨⟨#[]⟩,false,0,0⟩
def Vl.same (a b:Vl):Bool:=a.name.toList==b.name.toList&&a.ro==b.ro&&a.root==b.root&&a.next==b.next
theorem Vl.ext' {a b:Vl}(h1:a.name=b.name)(h2:a.ro=b.ro)(h3:a.root=b.root)(h4:a.next=b.next):a=b:=by
 cases a;cases b;simp_all
theorem Vl.same_iff (a b:Vl):a.same b=true↔a=b:=by
 unfold Vl.same;rw[ByteArray.toList_eq,ByteArray.toList_eq];constructor
 ·intro h;simp only[Bool.and_eq_true,beq_iff_eq] at h;obtain⟨⟨⟨h1,h2⟩,d⟩,e⟩:=h;refine Vl.ext' ?_ h2 d e;obtain⟨⟨⟨x⟩⟩,_,_,_⟩:=a;obtain⟨⟨⟨y⟩⟩,_,_,_⟩:=b;simpa using h1
 ·rintro rfl;simp
structure Sp where
 gen:Int
 Qa:Int
 log:Int
 Jo:List Vl
 len:Jo.length=8
def Sp.vs (S:Sp):List Value:=.int .i64 S.gen::.int .i64 S.Qa::.int .i64 S.log::S.Jo.flatMap Vl.vs
def Sp.v (S:Sp):Value:=.agg S.vs.toArray
def Sp.zero:Sp:=⟨0,0,0,List.replicate 8 Vl.zero,rfl⟩
def Sp.Oz (S:Sp)(k:Nat)(v:Vl):Sp:=⟨S.gen,S.Qa,S.log,S.Jo.set k v,by rw[List.length_set];exact S.len⟩
def Sp.at_ (S:Sp)(k:Nat):Vl:=S.Jo.getD k Vl.zero
theorem Sp.ext' {a b:Sp}(h1:a.gen=b.gen)(h2:a.Qa=b.Qa)(h3:a.log=b.log)(h4:a.Jo=b.Jo):a=b:=by
 cases a;cases b;simp_all
theorem Sp.get (S:Sp){k:Nat}(hk:k<8):S.Jo[k]?=some (S.at_ k):=by
 have:=S.len;simp[Sp.at_,List.getD,show k<S.Jo.length by omega]
theorem Zy (v:Vl):v.vs.length=4:=rfl
theorem qnj (l:List Vl):(l.flatMap Vl.vs).length=4*l.length:=by
 induction l with
 |nil=>rfl
 |cons v l ih=>rw[List.flatMap_cons,List.length_append,ih,Zy,List.length_cons];omega
theorem Sp.Zy (S:Sp):S.vs.length=35:=by unfold Sp.vs;simp only[List.length_cons,qnj,S.len]
theorem qvo:∀(l:List Vl) (k:Nat) (v:Vl),l[k]?=some v->∀(j:Nat) x,v.vs[j]?=some x->(l.flatMap Vl.vs)[4*k+j]?=some x
 |[],k,v,h,_,_,_=>by simp at h
 |u::l,0,v,h,j,x,hx=>by
  obtain rfl:u=v:=by simpa using h
  rw[List.flatMap_cons,Nat.mul_zero,Nat.zero_add,List.getElem?_append_left (List.getElem?_eq_some_iff.1 hx).1];exact hx
 |u::l,k+1,v,h,j,x,hx=>by
  rw[List.flatMap_cons,List.getElem?_append_right (by rw[Go.Proofs.YthkfkhejjmhomaaGreatDoor.Zy];omega),Go.Proofs.YthkfkhejjmhomaaGreatDoor.Zy,show 4*(k+1)+j-4=4*k+j by omega];exact qvo l k v (by simpa using h) j x hx
theorem Sp.cell (S:Sp){k:Nat}(hk:k<8){j:Nat}{x:Value}(hx:(S.at_ k).vs[j]?=some x):S.vs[3+4*k+j]?=some x:=by
 unfold Sp.vs;rw[show 3+4*k+j=(4*k+j)+1+1+1 by omega];simp only[List.getElem?_cons_succ];exact qvo _ k _ (S.get hk) j x hx
theorem qvp:∀(l:List Vl) (k:Nat) (v:Vl),k<l.length->(l.set k v).flatMap Vl.vs=splice (l.flatMap Vl.vs) (4*k) v.vs
 |[],k,v,h=>by simp at h
 |u::l,0,v,h=>by
  unfold splice;rw[List.set_cons_zero,List.flatMap_cons,List.flatMap_cons,Nat.mul_zero,List.take_zero,List.nil_append,Nat.zero_add,List.drop_left' (by rfl)]
 |u::l,k+1,v,h=>by
  rw[List.set_cons_succ,List.flatMap_cons,List.flatMap_cons,qvp l k v (by simpa using h)];unfold splice;rw[show 4*(k+1)=u.vs.length+4*k by rw[Go.Proofs.YthkfkhejjmhomaaGreatDoor.Zy];omega,List.take_length_add_append,Nat.add_assoc,List.drop_length_add_append,List.append_assoc]
theorem Sp.Qbn (S:Sp){k:Nat}(hk:k<8)(v:Vl):(S.Oz k v).vs=splice S.vs (3+4*k) v.vs:=by
 have h:=qvp S.Jo k v (by rw[S.len];exact hk);unfold Sp.vs Sp.Oz;dsimp only;rw[h];unfold splice;rw[show 3+4*k=4*k+1+1+1 by omega,show 4*k+1+1+1+v.vs.length=(4*k+v.vs.length)+1+1+1 by omega];simp only[List.take_succ_cons,List.drop_succ_cons,List.cons_append]
theorem Sp.one (S:Sp):∀x∈S.vs,x.oneCell'=true:=by
 intro x d;unfold Sp.vs at d;simp only[List.mem_cons,List.mem_flatMap,Vl.vs,List.not_mem_nil,or_false] at d;rcases d with rfl|rfl|rfl|⟨v,_,rfl|rfl|rfl|rfl⟩<;>rfl
def SB (w:World)(b:Nat)(S:Sp):Prop:=∃t,w.1[b]?=some (.cells S.vs.toArray t (0,0))
def VB (w:World)(b:Nat)(v:Vl):Prop:=∃t,w.1[b]?=some (.cells v.vs.toArray t (0,0))
section
variable {w w':World}{b:Nat}{S:Sp}{v:Vl}
theorem SB.new (w:World)(S:Sp)(t:TypeId):SB (w.alloc (.cells S.vs.toArray t)) w.1.size S:=⟨t,heap_alloc_new w _⟩
theorem VB.new (w:World)(v:Vl)(t:TypeId):VB (w.alloc (.cells v.vs.toArray t)) w.1.size v:=⟨t,heap_alloc_new w _⟩
theorem SB.lt (H:SB w b S):b<w.1.size:=by
 obtain⟨t,H⟩:=H;exact (Array.getElem?_eq_some_iff.1 H).1
theorem VB.lt (H:VB w b v):b<w.1.size:=by
 obtain⟨t,H⟩:=H;exact (Array.getElem?_eq_some_iff.1 H).1
theorem SB.block (H:SB w b S)(h:w'.1[b]?=w.1[b]?):SB w' b S:=by
 obtain⟨t,H⟩:=H;exact⟨t,h.trans H⟩
theorem VB.block (H:VB w b v)(h:w'.1[b]?=w.1[b]?):VB w' b v:=by
 obtain⟨t,H⟩:=H;exact⟨t,h.trans H⟩
theorem SB.below (H:SB w b S){B:Nat}(hb:Below B w w')(hB:b<B):SB w' b S:=H.block (hb.block b hB)
theorem VB.below (H:VB w b v){B:Nat}(hb:Below B w w')(hB:b<B):VB w' b v:=H.block (hb.block b hB)
theorem SB.range (H:SB w b S):w.rangeAt b 0 S.vs:=λj x d=>by
 obtain⟨t,H⟩:=H;rw[cell_of_row _ _ _ _ _ _ H,Nat.zero_add];simpa using d
theorem VB.range (H:VB w b v):w.rangeAt b 0 v.vs:=λj x d=>by
 obtain⟨t,H⟩:=H;rw[cell_of_row _ _ _ _ _ _ H,Nat.zero_add];simpa using d
theorem SB.c0 (H:SB w b S):w.cell? ⟨b,0,none⟩=some (.int .i64 S.gen):=H.range 0 _ rfl
theorem SB.c1 (H:SB w b S):w.cell? ⟨b,1,none⟩=some (.int .i64 S.Qa):=H.range 1 _ rfl
theorem SB.c2 (H:SB w b S):w.cell? ⟨b,2,none⟩=some (.int .i64 S.log):=H.range 2 _ rfl
theorem VB.c0 (H:VB w b v):w.cell? ⟨b,0,none⟩=some (.string v.name):=H.range 0 _ rfl
theorem VB.c1 (H:VB w b v):w.cell? ⟨b,1,none⟩=some (.bool v.ro):=H.range 1 _ rfl
theorem VB.c2 (H:VB w b v):w.cell? ⟨b,2,none⟩=some (.int .i64 v.root):=H.range 2 _ rfl
theorem VB.c3 (H:VB w b v):w.cell? ⟨b,3,none⟩=some (.int .i64 v.next):=H.range 3 _ rfl
theorem SB.vol (H:SB w b S){k:Nat}(hk:k<8):w.rangeAt b (3+4*k) (S.at_ k).vs:=λj x d=>by
 have:=H.range (3+4*k+j) x (S.cell hk d);rwa [Nat.zero_add] at this
theorem SB.Jo (H:SB w b S):w.rangeAt b 3 (S.Jo.flatMap Vl.vs):=λj x d=>by
 have:=H.range (3+j) x (by unfold Sp.vs;rw[show 3+j=j+1+1+1 by omega];exact d);rwa [Nat.zero_add] at this
theorem SB.Uo (H:SB w b S):Jq w 4 (some ⟨b,3,none⟩) 8 8 (S.Jo.map Vl.vs):=by
 refine⟨by rw[List.length_map,S.len],Nat.le_refl _,by unfold maxLen;omega,λj x d=>?_⟩;have e:j<8:=by have:=(List.getElem?_eq_some_iff.1 d).1;rw[List.length_map,S.len] at this;exact this
 rw[List.getElem?_map,S.get e] at d;obtain rfl:(S.at_ j).vs=x:=by simpa using d
 refine⟨b,3,rfl,H.lt,rfl,?_⟩;have:=H.vol e;rwa [Nat.mul_comm] at this
theorem SB.there (H:SB w b S):w.there b 0 35:=λj d=>by
 obtain⟨t,H⟩:=H;refine⟨?_,by unfold World.frozen?;rw[H];simp⟩;rw[cell_of_row _ _ _ _ _ _ H,Nat.zero_add,Array.getElem?_eq_getElem (by rw[List.size_toArray,S.Zy];exact d)];rfl
theorem VB.there (H:VB w b v):w.there b 0 4:=λj d=>by
 obtain⟨t,H⟩:=H;refine⟨?_,by unfold World.frozen?;rw[H];simp⟩;rw[cell_of_row _ _ _ _ _ _ H,Nat.zero_add,Array.getElem?_eq_getElem (by simpa [Vl.vs] using d)];rfl
theorem SB.fz (H:SB w b S)(j:Nat):w.frozen? ⟨b,j,none⟩=false:=by
 obtain⟨t,H⟩:=H;unfold World.frozen?;rw[H];simp
theorem VB.fz (H:VB w b v)(j:Nat):w.frozen? ⟨b,j,none⟩=false:=by
 obtain⟨t,H⟩:=H;unfold World.frozen?;rw[H];simp
end
theorem q3k {w:World}{b:Nat}{S:Sp}(H:SB w b S):(loadVar 120 ⟨b,0,none⟩).run Tryz.prog w=.ok S.v w:=
 run_loadVar_mid w b 0 120 S.vs _ H.range Tryz.underlying120 rfl (by rw[S.Zy];kernel_rfl)
theorem qwb {w:World}{b:Nat}{v:Vl}(H:VB w b v):(loadVar 117 ⟨b,0,none⟩).run Tryz.prog w=.ok v.v w:=
 run_loadVar_mid w b 0 117 v.vs _ H.range Tryz.underlying117 rfl (by kernel_rfl)
section
variable {w:World}{b:Nat}{S:Sp}{v:Vl}
theorem Qb2 (H:SB w b S):(Instr.loadAt 120 (.pointer (some ⟨b,0,none⟩))).run Tryz.prog w=.ok (.agg S.vs.toArray) w:=
 run_loadAt_mid w b 0 120 S.vs _ H.range Tryz.underlying120 rfl (by rw[S.Zy];kernel_rfl)
theorem Qb3 (H:SB w b S):(Instr.loadAt 118 (.pointer (some ⟨b,3,none⟩))).run Tryz.prog w=.ok (.agg (S.Jo.flatMap Vl.vs).toArray) w:=
 run_loadAt_mid w b 3 118 (S.Jo.flatMap Vl.vs) _ H.Jo Tryz.underlying118 rfl (by rw[qnj,S.len];kernel_rfl)
theorem qis {α:Type}:∀{l:List α},l.length=8->∃a b c d e f g h,l=[a,b,c,d,e,f,g,h]
 |[a,b,c,d,e,f,g,h],_=>⟨a,b,c,d,e,f,g,h,rfl⟩
theorem qyd (S:Sp){k:Nat}(m:k<8)(w:World):(Instr.index 118 (.agg (S.Jo.flatMap Vl.vs).toArray) (.int .i64 (k:Int))).run Tryz.prog w=.ok (.agg #[.string (S.at_ k).name,.bool (S.at_ k).ro,.int .i64 (S.at_ k).root,.int .i64 (S.at_ k).next]) w:=by
 unfold Sp.at_;obtain⟨a,b,c,d,e,f,g,h,p⟩:=qis S.len;rw[p];match k,m with
 |0,_=>show (Instr.index 118 _ (.int .i64 0)).run Tryz.prog w=_;kernel_rfl
 |1,_=>show (Instr.index 118 _ (.int .i64 1)).run Tryz.prog w=_;kernel_rfl
 |2,_=>show (Instr.index 118 _ (.int .i64 2)).run Tryz.prog w=_;kernel_rfl
 |3,_=>show (Instr.index 118 _ (.int .i64 3)).run Tryz.prog w=_;kernel_rfl
 |4,_=>show (Instr.index 118 _ (.int .i64 4)).run Tryz.prog w=_;kernel_rfl
 |5,_=>show (Instr.index 118 _ (.int .i64 5)).run Tryz.prog w=_;kernel_rfl
 |6,_=>show (Instr.index 118 _ (.int .i64 6)).run Tryz.prog w=_;kernel_rfl
 |7,_=>show (Instr.index 118 _ (.int .i64 7)).run Tryz.prog w=_;kernel_rfl
end
theorem qgx {α:Type}(L:List α)(o:Nat)(v:α)(r:List α)(h:o<L.length):splice (L.set o v) (o+1) r=splice L o (v::r):=by
 unfold splice;have d:(L.set o v).take (o+1)=L.take o++[v]:=by
  rw[List.take_succ_eq_append_getElem (by simpa using h),List.take_set_of_le (Nat.le_refl _),List.getElem_set_self]
 have e:(L.set o v).drop (o+1+r.length)=L.drop (o+(v::r).length):=by
  rw[List.drop_set_of_lt (by omega),List.length_cons];congr 1
  omega
 rw[d,e,List.append_assoc];rfl
theorem q0i (b:Nat)(t:TypeId):∀(vs:List Value) (o:Nat) (w:World) (L:List Value),w.1[b]?=some (.cells L.toArray t (0,0))->o+vs.length<=L.length->
  (w.setCells b o vs).1[b]?=some (.cells (splice L o vs).toArray t (0,0))
 |[],o,w,L,H,_=>by
  unfold splice;simpa [World.setCells] using H
 |v::r,o,w,L,H,hl=>by
  have d:o+(r.length+1)<=L.length:=by simpa using hl
  have h1:=heap_setCell_same w b o L.toArray t v H;rw[show L.toArray.setIfInBounds o v=(L.set o v).toArray by simp] at h1;have h2:=q0i b t r (o+1) (w.setCell ⟨b,o,none⟩ v) (L.set o v) h1 (by rw[List.length_set];omega);rw[qgx L o v r (by omega)] at h2;exact h2
theorem q2j {α:Type}(L C:List α)(h:L.length=C.length):splice L 0 C=C:=by
 unfold splice;rw[List.take_zero,List.nil_append,List.drop_of_length_le (by omega),List.append_nil]
theorem Eu {f:Array Oper}{d:List Oper}{o:Oper}{a:Act}{w:World}{Q:Exit->Act->World->Prop}(D:o.guard=none)(x y:Operand)(p:o.op=Op.store 120 x y)
  (b:Nat) (u:a.eval x=.pointer (some ⟨b,0,none⟩)) (S m:Sp) (F:a.eval y=.agg S.vs.toArray) (H:SB w b m)
  (A:∀w',SB w' b S->(∀B,B<=b->Below B w w')->Turn (λk=>k=b) w w'->wpList Tryz.prog f Q d (a.put o.dst undef) w'):wpList Tryz.prog f Q (o::d) a w:=by
 have E:w.there b 0 S.vs.toArray.size:=by rw[List.size_toArray,S.Zy];exact H.there
 refine wpList_store_mid D _ x y p b 0 S.vs.toArray u F E (by rw[List.size_toArray,S.Zy];kernel_rfl) (all_oneCell_toArray S.one) ?_;have T:=Vb (S:=λk=>k=b) rfl S.vs 0 w;refine A _ ?_ (λB G=>T.below (λx u=>by omega) (by have:=H.lt;omega)) T;obtain⟨t,H⟩:=H;have e:=q0i b t S.vs 0 w m.vs H (by rw[S.Zy,m.Zy];omega);rw[q2j _ _ (by rw[S.Zy,m.Zy])] at e;exact⟨t,e⟩
theorem qgy {f:Array Oper}{d:List Oper}{o:Oper}{a:Act}{w:World}{Q:Exit->Act->World->Prop}(A:o.guard=none)(x y:Operand)(m:o.op=Op.store 117 x y)
  (b k:Nat) (E:k<8) (p:a.eval x=.pointer (some ⟨b,3+4*k,none⟩)) (v:Vl) (S:Sp) (G:a.eval y=v.v) (H:SB w b S)
  (u:∀w',SB w' b (S.Oz k v)->(∀B,B<=b->Below B w w')->Turn (λk=>k=b) w w'->wpList Tryz.prog f Q d (a.put o.dst undef) w'):wpList Tryz.prog f Q (o::d) a w:=by
 have F:w.there b (3+4*k) v.vs.toArray.size:=λj D=>by
  have:=H.there (3+4*k+j) (by have:j<4:=D;omega);rwa [Nat.zero_add] at this
 refine wpList_store_mid A _ x y m b (3+4*k) v.vs.toArray p G F (by kernel_rfl) (all_oneCell_toArray (by simp[Vl.vs,Value.oneCell'])) ?_;have T:=Vb (S:=λk=>k=b) rfl v.vs (3+4*k) w;refine u _ ?_ (λB I=>T.below (λx p=>by omega) (by have:=H.lt;omega)) T;obtain⟨t,H⟩:=H;have e:=q0i b t v.vs (3+4*k) w S.vs H (by rw[S.Zy,Zy];omega);rw[<-S.Qbn E] at e;exact⟨t,e⟩
theorem qgz {f:Array Oper}{d:List Oper}{o:Oper}{a:Act}{w:World}{Q:Exit->Act->World->Prop}(A:o.guard=none)(x y:Operand)(m:o.op=Op.store 117 x y)
  (b:Nat) (p:a.eval x=.pointer (some ⟨b,0,none⟩)) (v v0:Vl) (D:a.eval y=v.v) (H:VB w b v0)
  (u:∀w',VB w' b v->(∀B,B<=b->Below B w w')->Turn (λk=>k=b) w w'->wpList Tryz.prog f Q d (a.put o.dst undef) w'):wpList Tryz.prog f Q (o::d) a w:=by
 refine wpList_store_mid A _ x y m b 0 v.vs.toArray p D H.there (by kernel_rfl) (all_oneCell_toArray (by simp[Vl.vs,Value.oneCell'])) ?_;have T:=Vb (S:=λk=>k=b) rfl v.vs 0 w;refine u _ ?_ (λB E=>T.below (λx p=>by omega) (by have:=H.lt;omega)) T;obtain⟨t,H⟩:=H;have e:=q0i b t v.vs 0 w v0.vs H (by rw[Zy,Zy];omega);rw[q2j v0.vs v.vs rfl] at e;exact⟨t,e⟩
theorem ql5 {e:Array Oper}{d:List Oper}{o:Oper}{a:Act}{w:World}{Q:Exit->Act->World->Prop}(p:o.guard=none)(x:Operand)(f:o.op=Op.load 118 x)
  (b:Nat) (u:a.eval x=.pointer (some ⟨b,3,none⟩)) (S:Sp) (H:SB w b S) (m:wpList Tryz.prog e Q d (a.put o.dst (.agg (S.Jo.flatMap Vl.vs).toArray)) w):wpList Tryz.prog e Q (o::d) a w:=
 wpList_load_mid p _ x f b 3 u (S.Jo.flatMap Vl.vs) _ H.Jo Tryz.underlying118 rfl (by rw[qnj,S.len];kernel_rfl) m
theorem qsg (d:Nat)(a b:Vl)(w:World):(Op.equalIn (d+2) 117 a.v b.v).run Tryz.prog w=.ok (a.same b) w:=by
 unfold Vl.v;rw[run_equalIn_agg w (d+1) 117 _ _ (by kernel_rfl) (by kernel_rfl)];unfold Program.fieldsOf;rw[Tryz.underlying117];simp[go_sem,Tryz.underlying3,Tryz.underlying9,Tryz.underlying4];unfold Vl.same;by_cases h1:a.name.toList=b.name.toList
 ·by_cases h2:a.ro=b.ro
  ·by_cases e:a.root=b.root
   ·by_cases f:a.next=b.next
    ·simp[h1,h2,e,f]
    ·simp[h1,h2,e,f]
   ·simp[h1,h2,e]
  ·simp[h1,h2]
 ·simp[h1]
theorem qye (a b:Vl)(r:Bool)(h:a.same b=r)(w:World):(binOp .neq 117 (.agg #[.string a.name,.bool a.ro,.int .i64 a.root,.int .i64 a.next]) (.agg #[.string b.name,.bool b.ro,.int .i64 b.root,.int .i64 b.next])).run Tryz.prog w=.ok (.bool (!r)) w:=by
 rw[run_neq_struct];have:=qsg 9998 a b w;unfold Vl.v at this;rw[this,h];rfl
theorem qbg (l:List UInt8)(k:Nat)(d:k<l.length)(w:World):(Go.part 5 (l.map bv).toArray (k*1)).run Tryz.prog w=.ok (bv (l.getD k 0)) w:=by
 refine run_part_plain w (by kernel_rfl) ?_;rw[Nat.mul_one];simp[List.getD,d]
theorem q69 (d:Nat)(l m:List UInt8)(w:World):∀is:List Nat,(∀i∈is,i<l.length/\i<m.length)->(Op.eqItems (d+1) 5 1 (l.map bv).toArray (m.map bv).toArray is).run Tryz.prog w=.ok (is.all λi=>l.getD i 0==m.getD i 0) w
 |[],_=>rfl
 |i::is,h=>by
  obtain⟨h1,h2⟩:=h i (List.mem_cons_self ..);have p:=q69 d l m w is λj f=>h j (List.mem_cons_of_mem _ f)
  have e:(Op.equalIn (d+1) 5 (bv (l.getD i 0)) (bv (m.getD i 0))).run Tryz.prog w=.ok (l.getD i 0==m.getD i 0) w:=by
   unfold bv;rw[run_equalIn_int w d 5 .u8 .u8 _ _ Tryz.underlying5];congr 1
   rw[Bool.eq_iff_iff,beq_iff_eq,beq_iff_eq];exact⟨λh=>UInt8.toNat_inj.1 (by omega),λh=>by rw[h]⟩
  simp only[Op.eqItems,Sem.run_bind,qbg l i h1 w,qbg m i h2 w,e,Result.andThen_ok,List.all_cons]
  cases l.getD i 0==m.getD i 0
  ·simp
  ·simpa using p
theorem qyf (l m:List UInt8)(n:Nat)(h1:l.length=n)(h2:m.length=n):((List.range n).all λi=>l.getD i 0==m.getD i 0)=decide (l=m):=by
 rw[Bool.eq_iff_iff,List.all_eq_true,decide_eq_true_eq];constructor
 ·intro h;refine List.ext_getElem (by omega) λi hi d=>?_
  have:=h i (List.mem_range.2 (by omega));simpa [List.getD,hi,d] using this
 ·rintro rfl i _;simp
theorem qnk (l m:List UInt8)(h1:l.length=256)(h2:m.length=256)(r:Bool)(e:decide (l=m)=r)(w:World):(binOp .neq 288 (.agg (l.map bv).toArray) (.agg (m.map bv).toArray)).run Tryz.prog w=.ok (.bool (!r)) w:=by
 have hi:∃i,Tryz.prog.info? 5=some i/\Tryz.prog.cellsOf 5=1:=(Option.isSome_iff_exists.1 (show (Tryz.prog.info? 5).isSome=true by kernel_rfl)).elim λi hi=>⟨i,hi,by kernel_rfl⟩
 obtain⟨i,hi,d⟩:=hi;rw[run_neq_struct,run_equalIn_array w 9999 _ _ Tryz.underlying288 hi,d,q69 9998 l m w _ (λi hi=>by have:=List.mem_range.1 hi;omega),qyf l m 256 h1 h2,e];rfl
theorem Pg (x a b:Int)(r:Bool)(h:decide (a<=x/\x<=b)=r)(w:World) :
  Calls Tryz.prog 125 #[.int .i64 x,.int .i64 a,.int .i64 b] w λe w'=>e=.returned (.bool r)/\w=w':=by
 subst h;go_enter Tryz.func125,Tryz.ntmps125
 go_wp2;all_goals
  go_ret;refine⟨congrArg (λx=>Ending.returned (Value.bool x)) ?_,rfl⟩;first
   |exact (decide_eq_false (by omega)).symm
   |exact decide_eq_decide.2 (by omega)
   |(rw[Bool.eq_iff_iff];simp;omega)
def Nq (b:Bool):Int:=if b=true then 1 else 0
theorem ql6 (b:Bool)(w:World) :
  Calls Tryz.prog 264 #[.bool b] w λe w'=>e=.returned (.int .i64 (Nq b))/\w=w':=by
 cases b;all_goals
  go_enter Tryz.func264,Tryz.ntmps264
  go_wp2;go_ret;exact⟨rfl,rfl⟩
def Oq (c:Nat):Bool:=decide ((97<=c/\c<=122)\/(48<=c/\c<=57)\/c=45)
def Rt (s:ByteArray):Bool:=(List.range s.size).all λj=>Oq (Ku s.data.toList j)
def Du (s:ByteArray):Bool:=Rt s&&decide (1<=s.size/\s.size<=10)
theorem qyg {s:ByteArray}{j:Nat}(d:j<s.size)(h:Oq (Ku s.data.toList j)=false):Du s=false:=by
 have:Rt s=false:=by
  unfold Rt;rw[List.all_eq_false];exact⟨j,List.mem_range.2 d,by rw[h];simp⟩
 unfold Du;rw[this,Bool.false_and]
theorem qwc {s:ByteArray}(h:∀j,j<s.size->Oq (Ku s.data.toList j)=true):Du s=decide (1<=s.size/\s.size<=10):=by
 have:Rt s=true:=by
  unfold Rt;rw[List.all_eq_true];exact λj d=>h j (List.mem_range.1 d)
 unfold Du;rw[this,Bool.true_and]
theorem qwd (s:ByteArray)(k:Nat)(d:k<s.size)(w:World):(Instr.index 9 (.string s) (.int .i64 (k:Int))).run Tryz.prog w=.ok (.int .u8 (Ku s.data.toList k:Int)) w:=by
 rw[run_index_string w 9 s .i64 _ Tryz.underlying9,dif_pos (by omega)];congr 3
 unfold Ku;rw[List.getD_eq_getElem?_getD,List.getElem?_eq_getElem (by simpa using d)];simp[ByteArray.getElem_eq_getElem_data]
theorem q71 (s:ByteArray)(r:Bool)(P:Du s=r)(w:World)(hm:s.size<=maxLen) :
  Calls Tryz.prog 201 #[.string s] w λe w'=>e=.returned (.bool r)/\w=w':=by
 subst P;unfold maxLen at hm;go_enter Tryz.func201,Tryz.ntmps201
 go_wp2_with fail
 go_loop [7] (λi=>∃k:Nat,k<=s.size/\i=.int .i64 (k:Int)/\∀j<k,Oq (Ku s.data.toList j)=true) (λi=>s.size-(intOf i).toNat)
 case atStart=>exact⟨0,Nat.zero_le _,rfl,λj M=>by omega⟩
 case round=>
  obtain⟨k,Q,rfl,f⟩:=hrel;by_cases B:k<s.size
  ·have I:=qwd s k B;have p:=λh=>qyg (s:=s) (j:=k) B h
   obtain⟨c,H⟩:∃c,Ku s.data.toList k=c:=⟨_,rfl⟩;have K:=q96 s.data.toList k;rw[H] at I p K;have m:=Lib.hid p;have next:Oq c=true->∀j<k+1,Oq (Ku s.data.toList j)=true:=λh j M=>by
    by_cases J:j=k
    ·rw[J,H];exact h
    ·exact f j (by omega)
   have d:=Lib.hid next;have O:(0:Int)<=(k:Int):=by omega
   clear p next f H;rcases (by omega:(97<=c/\c<=122)\/122<c\/(57<c/\c<97)\/(48<=c/\c<=57)\/(c<48/\c≠45)\/c=45) with h|h|h|h|h|h
   ·have D:decide ((c:Int)<97)=false:=decide_eq_false (by omega);have E:decide (122<(c:Int))=false:=decide_eq_false (by omega);have F:decide ((c:Int)<48)=false:=decide_eq_false (by omega);have G:decide (57<(c:Int))=true:=decide_eq_true (by omega);go_wp2;exact⟨⟨k+1,by omega,by go_num,d.out (decide_eq_true (by omega))⟩,by simp[intOf];omega⟩
   ·have D:decide ((c:Int)<97)=false:=decide_eq_false (by omega);have E:decide (122<(c:Int))=true:=decide_eq_true (by omega);have F:decide ((c:Int)<48)=false:=decide_eq_false (by omega);have G:decide (57<(c:Int))=true:=decide_eq_true (by omega);have u:¬(c:Int)=45:=by omega
    go_wp2;go_ret;exact⟨by rw[m.out (decide_eq_false (by omega))];rfl,rfl⟩
   ·have D:decide ((c:Int)<97)=true:=decide_eq_true (by omega);have E:decide (122<(c:Int))=false:=decide_eq_false (by omega);have F:decide ((c:Int)<48)=false:=decide_eq_false (by omega);have G:decide (57<(c:Int))=true:=decide_eq_true (by omega);have u:¬(c:Int)=45:=by omega
    go_wp2;go_ret;exact⟨by rw[m.out (decide_eq_false (by omega))];rfl,rfl⟩
   ·have D:decide ((c:Int)<97)=true:=decide_eq_true (by omega);have E:decide (122<(c:Int))=false:=decide_eq_false (by omega);have F:decide ((c:Int)<48)=false:=decide_eq_false (by omega);have G:decide (57<(c:Int))=false:=decide_eq_false (by omega);go_wp2;exact⟨⟨k+1,by omega,by go_num,d.out (decide_eq_true (by omega))⟩,by simp[intOf];omega⟩
   ·have D:decide ((c:Int)<97)=true:=decide_eq_true (by omega);have E:decide (122<(c:Int))=false:=decide_eq_false (by omega);have F:decide ((c:Int)<48)=true:=decide_eq_true (by omega);have G:decide (57<(c:Int))=false:=decide_eq_false (by omega);have u:¬(c:Int)=45:=by omega
    go_wp2;go_ret;exact⟨by rw[m.out (decide_eq_false (by omega))];rfl,rfl⟩
   ·subst h;go_wp2;exact⟨⟨k+1,by omega,by go_num,d.out (by decide)⟩,by simp[intOf];omega⟩
  ·have y:k=s.size:=by omega
   have A:=Lib.hid (qwc (s:=s) (by rw[<-y];exact f));clear y f;go_wp2_with fail
   refine (Pg (s.size:Int) 1 10 _ rfl w).mono ?_;rintro e R ⟨rfl,rfl⟩;go_wp2;go_ret;exact⟨by rw[A.out];exact congrArg (λx=>Ending.returned (Value.bool x)) (by rw[Bool.eq_iff_iff];simp;omega),rfl⟩
def Rl (l:List UInt8)(k a:Int):Bool:=okB l&&decide ((Yk l).kind=k/\(Yk l).addr=a)
theorem q9d (h:Hd)(l:List UInt8)(_:l.length<=236):(Zn h l).take 4=Qy (more 0 (Yf h l):Nat) 4/\(Zn h l).drop 4=Yf h l:=
 ⟨List.take_left' (by rw[Xf]),List.drop_left' (by rw[Xf])⟩
theorem Pn (x:Int)(m:Nat)(h0:0<=x)(h1:x<(256 ^ m:Nat)):(Qw (Qy x m):Int)=x:=by
 obtain⟨u,rfl⟩:=Int.eq_ofNat_of_zero_le h0;rw[qb5,Nat.mod_eq_of_lt (by omega)]
theorem qvq (h:Hd)(l:List UInt8)(d:h.ok=true)(f:l.length<=236):G5 (((Zn h l).drop 4).take 11)=h:=by
 rw[(q9d h l f).2];have e:(Yf h l).take 11=hdB h:=List.take_left' (q62 h);rw[e];obtain⟨⟨u,y⟩,⟨A,B⟩,⟨c1,c2⟩,⟨D,E⟩,F,G⟩:=of_decide_eq_true d;obtain⟨k,a,c,v,g⟩:=h;unfold G5 hdB;dsimp only at *;have m:(Qy k 1++(Qy v 1++(Qy a 2++(Qy c 2++Qy g 5)))).take 1=Qy k 1:=List.take_left' (Xf _ _);have p:((Qy k 1++(Qy v 1++(Qy a 2++(Qy c 2++Qy g 5)))).drop 1).take 1=Qy v 1:=by rw[List.drop_left' (Xf _ _)];exact List.take_left' (Xf _ _)
 have t3:((Qy k 1++(Qy v 1++(Qy a 2++(Qy c 2++Qy g 5)))).drop 2).take 2=Qy a 2:=by
  rw[<-List.append_assoc,List.drop_left' (by simp[Xf])];exact List.take_left' (Xf _ _)
 have t4:((Qy k 1++(Qy v 1++(Qy a 2++(Qy c 2++Qy g 5)))).drop 4).take 2=Qy c 2:=by
  rw[<-List.append_assoc,<-List.append_assoc,List.drop_left' (by simp[Xf])];exact List.take_left' (Xf _ _)
 have t5:((Qy k 1++(Qy v 1++(Qy a 2++(Qy c 2++Qy g 5)))).drop 6).take 5=Qy g 5:=by
  rw[<-List.append_assoc,<-List.append_assoc,<-List.append_assoc,List.drop_left' (by simp[Xf])];exact List.take_of_length_le (by rw[Xf];omega)
 rw[m,p,t3,t4,t5,Pn k 1 (by omega) (by omega),Pn v 1 (by omega) (by omega),Pn a 2 (by omega) (by omega),Pn c 2 (by omega) (by omega),Pn g 5 (by omega) (by omega)]
theorem qh0 (h:Hd)(l:List UInt8)(d:h.ok=true)(f:l.length<=236):okB (Zn h l)=true:=by
 obtain⟨p,m⟩:=q9d h l f;refine decide_eq_true ⟨q95 h l f,?_,by rw[qvq h l d f];exact d,?_⟩
 ·unfold Uw;rw[p,m]
 ·have e:(Zn h l).drop 15=List.replicate 5 0++(l++List.replicate (236-l.length) 0):=by
   have:(Zn h l).drop 15=(Yf h l).drop 11:=by rw[<-m,List.drop_drop]
   rw[this];exact List.drop_left' (q62 h)
  rw[e,List.take_left' (by simp)];rfl
theorem qit (h:Hd)(l:List UInt8)(d:l.length<=236):(Zn h l).drop 20=l++List.replicate (236-l.length) 0:=by
 obtain⟨f,e⟩:=q9d h l d;have:(Zn h l).drop 20=(Yf h l).drop 16:=by rw[<-e,List.drop_drop]
 rw[this];unfold Yf;rw[<-List.append_assoc];exact List.drop_left' (by simp[q62])
theorem q6a (h:Hd)(l:List UInt8)(d:h.ok=true)(e:l.length<=236):Yk (Zn h l)=h/\Un (Zn h l)=l++List.replicate (236-l.length) 0/\Lp (Zn h l)=0:=by
 obtain⟨h1,h2,f⟩:=q6x (qh0 h l d e);exact⟨by rw[h1,qvq h l d e],by rw[h2,qit h l e],f⟩
theorem qnl (h:Hd)(l:List UInt8)(d:h.ok=true)(e:l.length<=236)(k a:Int):Rl (Zn h l) k a=decide (h.kind=k/\h.addr=a):=by
 unfold Rl;rw[qh0 h l d e,(q6a h l d e).1,Bool.true_and]
theorem q2z (a:List UInt8)(m:Nat)(h:a.length=m):Qy (Qw a:Nat) m=a:=by
 subst h;exact qkx (Xf _ _) (by rw[qb5,Nat.mod_eq_of_lt (q77 a)])
theorem qsh (r:List UInt8)(h:r.length=11):hdB (G5 r)=r:=by
 unfold hdB G5;dsimp only;rw[q2z _ 1 (by simp;omega),q2z _ 1 (by simp;omega),q2z _ 2 (by simp;omega),q2z _ 2 (by simp;omega),q2z _ 5 (by simp;omega)];have m:(r.drop 6).take 5=r.drop 6:=List.take_of_length_le (by simp;omega);have f:(r.drop 4).take 2++r.drop 6=r.drop 4:=by have:=List.take_append_drop 2 (r.drop 4);rwa [List.drop_drop] at this
 have e:(r.drop 2).take 2++r.drop 4=r.drop 2:=by have:=List.take_append_drop 2 (r.drop 2);rwa [List.drop_drop] at this
 have d:(r.drop 1).take 1++r.drop 2=r.drop 1:=by have:=List.take_append_drop 1 (r.drop 1);rwa [List.drop_drop] at this
 rw[m,f,e,d,List.take_append_drop]
theorem qiu {a:List UInt8}(h:Y7 a=true):a=List.replicate a.length 0:=by
 refine List.eq_replicate_iff.2 ⟨rfl,λx d=>?_⟩;simpa using List.all_eq_true.1 h x d
theorem qwe (l:List UInt8)(h:okB l=true):Xn (Yk l) (l.drop 20)=0/\Xy (Yk l) (l.drop 20)=l:=by
 obtain⟨B,y,e,A⟩:=of_decide_eq_true h;have p:=(q6x h).1;have d:(l.drop 20).length<=236:=by simp;omega
 unfold Xn Xy;rw[p,if_pos e,if_pos d,if_pos e,if_pos d];refine⟨rfl,?_⟩;have u:Yf (G5 ((l.drop 4).take 11)) (l.drop 20)=l.drop 4:=by
  unfold Yf;rw[qsh _ (by simp;omega)];have z:=qiu A;rw[show ((l.drop 15).take 5).length=5 by simp;omega] at z;rw[<-z,show 236-(l.drop 20).length=0 by simp;omega];have m:(l.drop 15).take 5++l.drop 20=l.drop 15:=by have:=List.take_append_drop 5 (l.drop 15);rwa [List.drop_drop] at this
  have f:(l.drop 4).take 11++l.drop 15=l.drop 4:=by have:=List.take_append_drop 11 (l.drop 4);rwa [List.drop_drop] at this
  simp only[List.replicate_zero,List.append_nil];rw[m,f]
 unfold Zn;rw[u];have:Qy (more 0 (l.drop 4):Nat) 4=l.take 4:=y.symm;rw[this,List.take_append_drop]
theorem q6b (h:Hd)(l:List UInt8)(d:Xn h l=0):h.ok=true/\l.length<=236/\Xy h l=Zn h l:=by
 unfold Xn at d;unfold Xy;split at d
 ·rename_i e;split at d
  ·rename_i f;exact⟨e,f,by rw[if_pos e,if_pos f]⟩
  ·cases d
 ·cases d
