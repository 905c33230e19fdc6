/- A superblock as plain data: its cells, the blocks that hold one, or a subvolume; what a la -/
import Derived.Test.YtnjacafcocnicaaGreatDoorDv10
import Derived.DeepKeys
namespace Go.Proofs.YtnjacafcocnicaaGreatDoor
open Go Go.RowKit Go.Proofs Tryz
set_option maxHeartbeats 2000000
set_option maxRecDepth 10000
structure Vl where
 name:ByteArray
 ro:Bool
 root:Int
 next:Int
def Vl.vs (v:Vl):LV:=[.string v.name,.bool v.ro,.int .i64 v.root,.int .i64 v.next]
def Vl.v (v:Vl):Value:=.agg #[.string v.name,.bool v.ro,.int .i64 v.root,.int .i64 v.next]
def Vl.zero:Vl:=⟨⟨#[]⟩,false,0,0⟩
def Vl.same (a b:Vl):Bool:=a.name.toList==b.name.toList&&a.ro==b.ro&&a.root==b.root&&a.next==b.next
theorem Vl.ext' {a b:Vl}(h1:a.name=b.name)(h2:a.ro=b.ro)(h3:a.root=b.root)(h4:a.next=b.next):a=b:=by
 cases a;cases b;simp_all
theorem Vl.same_iff (a b:Vl):a.same b=true↔a=b:=by
 unfold Vl.same;rw[ByteArray.toList_eq,ByteArray.toList_eq];constructor
 ·intro h;simp only[BN,beq_iff_eq] at h;obtain⟨⟨⟨h1,h2⟩,e⟩,f⟩:=h;refine Vl.ext' ?_ h2 e f;obtain⟨⟨⟨x⟩⟩,_,_,_⟩:=a;obtain⟨⟨⟨y⟩⟩,_,_,_⟩:=b;simpa using h1
 ·rintro rfl;simp
structure Sp where
 gen:Int
 Qb:Int
 log:Int
 Jl:List Vl
 len:Jl.length=8
def Sp.vs (S:Sp):LV:=.int .i64 S.gen::.int .i64 S.Qb::.int .i64 S.log::S.Jl.flatMap Vl.vs
def Sp.v (S:Sp):Value:=.agg S.vs.toArray
def Sp.zero:Sp:=⟨0,0,0,List.replicate 8 Vl.zero,rfl⟩
def Sp.Tf (S:Sp)(k:Nat)(v:Vl):Sp:=⟨S.gen,S.Qb,S.log,S.Jl.set k v,by rw[List.length_set];exact S.len⟩
def Sp.at_ (S:Sp)(k:Nat):Vl:=S.Jl.getD k Vl.zero
theorem Sp.ext' {a b:Sp}(h1:a.gen=b.gen)(h2:a.Qb=b.Qb)(h3:a.log=b.log)(h4:a.Jl=b.Jl):a=b:=by
 cases a;cases b;simp_all
theorem Sp.get (S:Sp){k:Nat}(hk:k<8):S.Jl[k]?=some (S.at_ k):=by
 have:=S.len;simp[Sp.at_,List.getD,show k<S.Jl.length by omega]
theorem Zh (v:Vl):v.vs.length=4:=rfl
theorem qpx (l:List Vl):(l.flatMap Vl.vs).length=4*l.length:=by
 induction l with
 |nil=>rfl
 |cons v l ih=>rw[BC,AD,ih,Zh,AX];omega
theorem Sp.Zh (S:Sp):S.vs.length=35:=by unfold Sp.vs;simp only[AX,qpx,S.len]
theorem qyk:∀(l:List Vl) (k:Nat) (v:Vl),l[k]?=some v->∀(j:Nat) x,v.vs[j]?=some x->(l.flatMap Vl.vs)[4*k+j]?=some x
 |[],k,v,h,_,_,_=>by simp at h
 |u::l,0,v,h,j,x,hx=>by
  obtain rfl:u=v:=by simpa using h
  rw[BC,Nat.mul_zero,AT,List.getElem?_append_left (List.getElem?_eq_some_iff.1 hx).1];exact hx
 |u::l,k+1,v,h,j,x,hx=>by
  rw[BC,List.getElem?_append_right (by rw[Go.Proofs.YtnjacafcocnicaaGreatDoor.Zh];omega),Go.Proofs.YtnjacafcocnicaaGreatDoor.Zh,show 4*(k+1)+j-4=4*k+j by omega];exact qyk l k v (by simpa using h) j x hx
theorem Sp.cell (S:Sp){k:Nat}(hk:k<8){j:Nat}{x:Value}(hx:(S.at_ k).vs[j]?=some x):S.vs[3+4*k+j]?=some x:=by
 unfold Sp.vs;rw[show 3+4*k+j=(4*k+j)+1+1+1 by omega];simp only[List.getElem?_cons_succ];exact qyk _ k _ (S.get hk) j x hx
theorem qyl:∀(l:List Vl) (k:Nat) (v:Vl),k<l.length->(l.set k v).flatMap Vl.vs=splice (l.flatMap Vl.vs) (4*k) v.vs
 |[],k,v,h=>by simp at h
 |u::l,0,v,h=>by
  unfold splice;rw[List.set_cons_zero,BC,BC,Nat.mul_zero,List.take_zero,BG,AT,List.drop_left' (by rfl)]
 |u::l,k+1,v,h=>by
  rw[List.set_cons_succ,BC,BC,qyl l k v (by simpa using h)];unfold splice;rw[show 4*(k+1)=u.vs.length+4*k by rw[Go.Proofs.YtnjacafcocnicaaGreatDoor.Zh];omega,List.take_length_add_append,Nat.add_assoc,List.drop_length_add_append,AM]
theorem Sp.Qcc (S:Sp){k:Nat}(hk:k<8)(v:Vl):(S.Tf k v).vs=splice S.vs (3+4*k) v.vs:=by
 have h:=qyl S.Jl k v (by rw[S.len];exact hk);unfold Sp.vs Sp.Tf;dsimp only;rw[h];unfold splice;rw[show 3+4*k=4*k+1+1+1 by omega,show 4*k+1+1+1+v.vs.length=(4*k+v.vs.length)+1+1+1 by omega];simp only[List.take_succ_cons,List.drop_succ_cons,List.cons_append]
theorem Sp.one (S:Sp):∀x∈S.vs,x.oneCell'=true:=by
 intro x e;unfold Sp.vs at e;simp only[List.mem_cons,List.mem_flatMap,Vl.vs,List.not_mem_nil,or_false] at e;rcases e with rfl|rfl|rfl|⟨v,_,rfl|rfl|rfl|rfl⟩<;>rfl
def SB (w:WD)(b:Nat)(S:Sp):Prop:=∃t,w.1[b]?=some (.cells S.vs.toArray t (0,0))
def VB (w:WD)(b:Nat)(v:Vl):Prop:=∃t,w.1[b]?=some (.cells v.vs.toArray t (0,0))
section
variable {w w':WD}{b:Nat}{S:Sp}{v:Vl}
theorem SB.new (w:WD)(S:Sp)(t:TypeId):SB (w.alloc (.cells S.vs.toArray t)) w.1.size S:=⟨t,BE w _⟩
theorem VB.new (w:WD)(v:Vl)(t:TypeId):VB (w.alloc (.cells v.vs.toArray t)) w.1.size v:=⟨t,BE w _⟩
theorem SB.lt (H:SB w b S):b<w.1.size:=by
 obtain⟨t,H⟩:=H;exact (Array.getElem?_eq_some_iff.1 H).1
theorem VB.lt (H:VB w b v):b<w.1.size:=by
 obtain⟨t,H⟩:=H;exact (Array.getElem?_eq_some_iff.1 H).1
theorem SB.block (H:SB w b S)(h:w'.1[b]?=w.1[b]?):SB w' b S:=by
 obtain⟨t,H⟩:=H;exact⟨t,h.trans H⟩
theorem VB.block (H:VB w b v)(h:w'.1[b]?=w.1[b]?):VB w' b v:=by
 obtain⟨t,H⟩:=H;exact⟨t,h.trans H⟩
theorem SB.below (H:SB w b S){B:Nat}(hb:Below B w w')(hB:b<B):SB w' b S:=H.block (hb.block b hB)
theorem VB.below (H:VB w b v){B:Nat}(hb:Below B w w')(hB:b<B):VB w' b v:=H.block (hb.block b hB)
theorem SB.range (H:SB w b S):w.rangeAt b 0 S.vs:=λj x e=>by
 obtain⟨t,H⟩:=H;rw[cell_of_row _ _ _ _ _ _ H,AT];simpa using e
theorem VB.range (H:VB w b v):w.rangeAt b 0 v.vs:=λj x e=>by
 obtain⟨t,H⟩:=H;rw[cell_of_row _ _ _ _ _ _ H,AT];simpa using e
theorem SB.c0 (H:SB w b S):w.cell? ⟨b,0,none⟩=some (.int .i64 S.gen):=H.range 0 _ rfl
theorem SB.c1 (H:SB w b S):w.cell? ⟨b,1,none⟩=some (.int .i64 S.Qb):=H.range 1 _ rfl
theorem SB.c2 (H:SB w b S):w.cell? ⟨b,2,none⟩=some (.int .i64 S.log):=H.range 2 _ rfl
theorem VB.c0 (H:VB w b v):w.cell? ⟨b,0,none⟩=some (.string v.name):=H.range 0 _ rfl
theorem VB.c1 (H:VB w b v):w.cell? ⟨b,1,none⟩=some (.bool v.ro):=H.range 1 _ rfl
theorem VB.c2 (H:VB w b v):w.cell? ⟨b,2,none⟩=some (.int .i64 v.root):=H.range 2 _ rfl
theorem VB.c3 (H:VB w b v):w.cell? ⟨b,3,none⟩=some (.int .i64 v.next):=H.range 3 _ rfl
theorem SB.vol (H:SB w b S){k:Nat}(hk:k<8):w.rangeAt b (3+4*k) (S.at_ k).vs:=λj x e=>by
 have:=H.range (3+4*k+j) x (S.cell hk e);rwa [AT] at this
theorem SB.Jl (H:SB w b S):w.rangeAt b 3 (S.Jl.flatMap Vl.vs):=λj x e=>by
 have:=H.range (3+j) x (by unfold Sp.vs;rw[show 3+j=j+1+1+1 by omega];exact e);rwa [AT] at this
theorem SB.Gn (H:SB w b S):Jp w 4 (some ⟨b,3,none⟩) 8 8 (S.Jl.map Vl.vs):=by
 refine⟨by rw[AF,S.len],AE _,by unfold maxLen;omega,λj x e=>?_⟩;have f:j<8:=by have:=(List.getElem?_eq_some_iff.1 e).1;rw[AF,S.len] at this;exact this
 rw[BA,S.get f] at e;obtain rfl:(S.at_ j).vs=x:=by simpa using e
 refine⟨b,3,rfl,H.lt,rfl,?_⟩;have:=H.vol f;rwa [Nat.mul_comm] at this
theorem SB.there (H:SB w b S):w.there b 0 35:=λj e=>by
 obtain⟨t,H⟩:=H;refine⟨?_,by unfold World.frozen?;rw[H];simp⟩;rw[cell_of_row _ _ _ _ _ _ H,AT,Array.getElem?_eq_getElem (by rw[List.size_toArray,S.Zh];exact e)];rfl
theorem VB.there (H:VB w b v):w.there b 0 4:=λj e=>by
 obtain⟨t,H⟩:=H;refine⟨?_,by unfold World.frozen?;rw[H];simp⟩;rw[cell_of_row _ _ _ _ _ _ H,AT,Array.getElem?_eq_getElem (by simpa [Vl.vs] using e)];rfl
theorem SB.fz (H:SB w b S)(j:Nat):w.frozen? ⟨b,j,none⟩=false:=by
 obtain⟨t,H⟩:=H;unfold World.frozen?;rw[H];simp
theorem VB.fz (H:VB w b v)(j:Nat):w.frozen? ⟨b,j,none⟩=false:=by
 obtain⟨t,H⟩:=H;unfold World.frozen?;rw[H];simp
end
theorem q46 {w:WD}{b:Nat}{S:Sp}(H:SB w b S):(loadVar 103 ⟨b,0,none⟩).run prog w=.ok S.v w:=
 run_loadVar_mid w b 0 103 S.vs _ H.range underlying103 rfl (by rw[S.Zh];kernel_rfl)
theorem qze {w:WD}{b:Nat}{v:Vl}(H:VB w b v):(loadVar 100 ⟨b,0,none⟩).run prog w=.ok v.v w:=
 run_loadVar_mid w b 0 100 v.vs _ H.range underlying100 rfl (by kernel_rfl)
section
variable {w:WD}{b:Nat}{S:Sp}{v:Vl}
theorem Qcn (H:SB w b S):(Instr.loadAt 103 (.pointer (some ⟨b,0,none⟩))).run prog w=.ok (.agg S.vs.toArray) w:=
 run_loadAt_mid w b 0 103 S.vs _ H.range underlying103 rfl (by rw[S.Zh];kernel_rfl)
theorem Qco (H:SB w b S):(Instr.loadAt 101 (.pointer (some ⟨b,3,none⟩))).run prog w=.ok (.agg (S.Jl.flatMap Vl.vs).toArray) w:=
 run_loadAt_mid w b 3 101 (S.Jl.flatMap Vl.vs) _ H.Jl underlying101 rfl (by rw[qpx,S.len];kernel_rfl)
theorem ql7 {α:Type}:∀{l:List α},l.length=8->∃a b c d e f g h,l=[a,b,c,d,e,f,g,h]
 |[a,b,c,d,e,f,g,h],_=>⟨a,b,c,d,e,f,g,h,rfl⟩
theorem qBn (S:Sp){k:Nat}(m:k<8)(w:WD):(Instr.index 101 (.agg (S.Jl.flatMap Vl.vs).toArray) (.int .i64 (k:Int))).run prog w=.ok (.agg #[.string (S.at_ k).name,.bool (S.at_ k).ro,.int .i64 (S.at_ k).root,.int .i64 (S.at_ k).next]) w:=by
 unfold Sp.at_;obtain⟨a,b,c,d,e,f,g,h,p⟩:=ql7 S.len;rw[p];match k,m with
 |0,_=>show (Instr.index 101 _ (.int .i64 0)).run prog w=_;kernel_rfl
 |1,_=>show (Instr.index 101 _ (.int .i64 1)).run prog w=_;kernel_rfl
 |2,_=>show (Instr.index 101 _ (.int .i64 2)).run prog w=_;kernel_rfl
 |3,_=>show (Instr.index 101 _ (.int .i64 3)).run prog w=_;kernel_rfl
 |4,_=>show (Instr.index 101 _ (.int .i64 4)).run prog w=_;kernel_rfl
 |5,_=>show (Instr.index 101 _ (.int .i64 5)).run prog w=_;kernel_rfl
 |6,_=>show (Instr.index 101 _ (.int .i64 6)).run prog w=_;kernel_rfl
 |7,_=>show (Instr.index 101 _ (.int .i64 7)).run prog w=_;kernel_rfl
end
theorem qix {α:Type}(L:List α)(o:Nat)(v:α)(r:List α)(h:o<L.length):splice (L.set o v) (o+1) r=splice L o (v::r):=by
 unfold splice;have e:(L.set o v).take (o+1)=L.take o++[v]:=by
  rw[List.take_succ_eq_append_getElem (by simpa using h),List.take_set_of_le (AE _),List.getElem_set_self]
 have f:(L.set o v).drop (o+1+r.length)=L.drop (o+(v::r).length):=by
  rw[List.drop_set_of_lt (by omega),AX];congr 1
  omega
 rw[e,f,AM];rfl
theorem q0s (b:Nat)(t:TypeId):∀(vs:LV) (o:Nat) (w:WD) (L:LV),w.1[b]?=some (.cells L.toArray t (0,0))->o+vs.length<=L.length->
  (w.setCells b o vs).1[b]?=some (.cells (splice L o vs).toArray t (0,0))
 |[],o,w,L,H,_=>by
  unfold splice;simpa [World.setCells] using H
 |v::r,o,w,L,H,hl=>by
  have e:o+(r.length+1)<=L.length:=by simpa using hl
  have h1:=heap_setCell_same w b o L.toArray t v H;rw[show L.toArray.setIfInBounds o v=(L.set o v).toArray by simp] at h1;have h2:=q0s b t r (o+1) (w.setCell ⟨b,o,none⟩ v) (L.set o v) h1 (by rw[List.length_set];omega);rw[qix L o v r (by omega)] at h2;exact h2
theorem q47 {α:Type}(L C:List α)(h:L.length=C.length):splice L 0 C=C:=by
 unfold splice;rw[List.take_zero,BG,List.drop_of_length_le (by omega),BM]
theorem Fq {m:Array Oper}{f:List Oper}{o:Oper}{a:Act}{w:WD}{Q:Exit->Act->WD->Prop}(D:o.guard=none)(x y:Operand)(q:o.op=Op.store 103 x y)
  (b:Nat) (u:a.eval x=.pointer (some ⟨b,0,none⟩)) (S p:Sp) (F:a.eval y=.agg S.vs.toArray) (H:SB w b p)
  (A:∀w',SB w' b S->(∀B,B<=b->Below B w w')->Turn (λk=>k=b) w w'->wpList prog m Q f (a.put o.dst undef) w'):wpList prog m Q (o::f) a w:=by
 have E:w.there b 0 S.vs.toArray.size:=by rw[List.size_toArray,S.Zh];exact H.there
 refine wpList_store_mid D _ x y q b 0 S.vs.toArray u F E (by rw[List.size_toArray,S.Zh];kernel_rfl) (all_oneCell_toArray S.one) ?_;have T:=Vp (S:=λk=>k=b) rfl S.vs 0 w;refine A _ ?_ (λB G=>T.below (λx u=>by omega) (by have:=H.lt;omega)) T;obtain⟨t,H⟩:=H;have e:=q0s b t S.vs 0 w p.vs H (by rw[S.Zh,p.Zh];omega);rw[q47 _ _ (by rw[S.Zh,p.Zh])] at e;exact⟨t,e⟩
theorem qiy {m:Array Oper}{f:List Oper}{o:Oper}{a:Act}{w:WD}{Q:Exit->Act->WD->Prop}(A:o.guard=none)(x y:Operand)(p:o.op=Op.store 100 x y)
  (b k:Nat) (E:k<8) (q:a.eval x=.pointer (some ⟨b,3+4*k,none⟩)) (v:Vl) (S:Sp) (G:a.eval y=v.v) (H:SB w b S)
  (u:∀w',SB w' b (S.Tf k v)->(∀B,B<=b->Below B w w')->Turn (λk=>k=b) w w'->wpList prog m Q f (a.put o.dst undef) w'):wpList prog m Q (o::f) a w:=by
 have F:w.there b (3+4*k) v.vs.toArray.size:=λj D=>by
  have:=H.there (3+4*k+j) (by have:j<4:=D;omega);rwa [AT] at this
 refine wpList_store_mid A _ x y p b (3+4*k) v.vs.toArray q G F (by kernel_rfl) (all_oneCell_toArray (by simp[Vl.vs,Value.oneCell'])) ?_;have T:=Vp (S:=λk=>k=b) rfl v.vs (3+4*k) w;refine u _ ?_ (λB I=>T.below (λx q=>by omega) (by have:=H.lt;omega)) T;obtain⟨t,H⟩:=H;have e:=q0s b t v.vs (3+4*k) w S.vs H (by rw[S.Zh,Zh];omega);rw[<-S.Qcc E] at e;exact⟨t,e⟩
theorem qiz {m:Array Oper}{f:List Oper}{o:Oper}{a:Act}{w:WD}{Q:Exit->Act->WD->Prop}(A:o.guard=none)(x y:Operand)(p:o.op=Op.store 100 x y)
  (b:Nat) (q:a.eval x=.pointer (some ⟨b,0,none⟩)) (v v0:Vl) (D:a.eval y=v.v) (H:VB w b v0)
  (u:∀w',VB w' b v->(∀B,B<=b->Below B w w')->Turn (λk=>k=b) w w'->wpList prog m Q f (a.put o.dst undef) w'):wpList prog m Q (o::f) a w:=by
 refine wpList_store_mid A _ x y p b 0 v.vs.toArray q D H.there (by kernel_rfl) (all_oneCell_toArray (by simp[Vl.vs,Value.oneCell'])) ?_;have T:=Vp (S:=λk=>k=b) rfl v.vs 0 w;refine u _ ?_ (λB E=>T.below (λx q=>by omega) (by have:=H.lt;omega)) T;obtain⟨t,H⟩:=H;have e:=q0s b t v.vs 0 w v0.vs H (by rw[Zh,Zh];omega);rw[q47 v0.vs v.vs rfl] at e;exact⟨t,e⟩
theorem qnl {f:Array Oper}{e:List Oper}{o:Oper}{a:Act}{w:WD}{Q:Exit->Act->WD->Prop}(q:o.guard=none)(x:Operand)(m:o.op=Op.load 101 x)
  (b:Nat) (u:a.eval x=.pointer (some ⟨b,3,none⟩)) (S:Sp) (H:SB w b S) (p:wpList prog f Q e (a.put o.dst (.agg (S.Jl.flatMap Vl.vs).toArray)) w):wpList prog f Q (o::e) a w:=
 wpList_load_mid q _ x m b 3 u (S.Jl.flatMap Vl.vs) _ H.Jl underlying101 rfl (by rw[qpx,S.len];kernel_rfl) p
theorem qv3 (d:Nat)(a b:Vl)(w:WD):(Op.equalIn (d+2) 100 a.v b.v).run prog w=.ok (a.same b) w:=by
 unfold Vl.v;rw[run_equalIn_agg w (d+1) 100 _ _ (by kernel_rfl) (by kernel_rfl)];unfold Program.fieldsOf;rw[underlying100];simp[go_sem,underlying3,underlying9,underlying4];unfold Vl.same;by_cases h1:a.name.toList=b.name.toList
 ·by_cases h2:a.ro=b.ro
  ·by_cases e:a.root=b.root
   ·by_cases f:a.next=b.next
    ·simp[h1,h2,e,f]
    ·simp[h1,h2,e,f]
   ·simp[h1,h2,e]
  ·simp[h1,h2]
 ·simp[h1]
theorem qBo (a b:Vl)(r:Bool)(h:a.same b=r)(w:WD):(binOp .neq 100 (.agg #[.string a.name,.bool a.ro,.int .i64 a.root,.int .i64 a.next]) (.agg #[.string b.name,.bool b.ro,.int .i64 b.root,.int .i64 b.next])).run prog w=.ok (.bool (!r)) w:=by
 rw[run_neq_struct];have:=qv3 9998 a b w;unfold Vl.v at this;rw[this,h];rfl
theorem qcs (l:LU)(k:Nat)(e:k<l.length)(w:WD):(Go.part 5 (l.map bv).toArray (k*1)).run prog w=.ok (bv (l.getD k 0)) w:=by
 refine run_part_plain w (by kernel_rfl) ?_;rw[Nat.mul_one];simp[List.getD,e]
theorem q6x (d:Nat)(l m:LU)(w:WD):∀is:List Nat,(∀i∈is,i<l.length/\i<m.length)->(Op.eqItems (d+1) 5 1 (l.map bv).toArray (m.map bv).toArray is).run prog w=.ok (is.all λi=>l.getD i 0==m.getD i 0) w
 |[],_=>rfl
 |i::is,h=>by
  obtain⟨h1,h2⟩:=h i (AP ..);have p:=q6x d l m w is λj f=>h j (AO _ f)
  have e:(Op.equalIn (d+1) 5 (bv (l.getD i 0)) (bv (m.getD i 0))).run prog w=.ok (l.getD i 0==m.getD i 0) w:=by
   unfold bv;rw[run_equalIn_int w d 5 .u8 .u8 _ _ underlying5];congr 1
   rw[Bool.eq_iff_iff,beq_iff_eq,beq_iff_eq];exact⟨λh=>UInt8.toNat_inj.1 (by omega),λh=>by rw[h]⟩
  simp only[Op.eqItems,Sem.run_bind,qcs l i h1 w,qcs m i h2 w,e,Result.andThen_ok,List.all_cons]
  cases l.getD i 0==m.getD i 0
  ·simp
  ·simpa using p
theorem qBp (l m:LU)(n:Nat)(h1:l.length=n)(h2:m.length=n):((List.range n).all λi=>l.getD i 0==m.getD i 0)=decide (l=m):=by
 rw[Bool.eq_iff_iff,List.all_eq_true,decide_eq_true_eq];constructor
 ·intro h;refine List.ext_getElem (by omega) λi hi e=>?_
  have:=h i (List.mem_range.2 (by omega));simpa [List.getD,hi,e] using this
 ·rintro rfl i _;simp
theorem qpy (l m:LU)(h1:l.length=256)(h2:m.length=256)(r:Bool)(f:decide (l=m)=r)(w:WD):(binOp .neq 222 (.agg (l.map bv).toArray) (.agg (m.map bv).toArray)).run prog w=.ok (.bool (!r)) w:=by
 have hi:∃i,prog.info? 5=some i/\prog.cellsOf 5=1:=(Option.isSome_iff_exists.1 (show (prog.info? 5).isSome=true by kernel_rfl)).elim λi hi=>⟨i,hi,by kernel_rfl⟩
 obtain⟨i,hi,e⟩:=hi;rw[run_neq_struct,run_equalIn_array w 9999 _ _ underlying222 hi,e,q6x 9998 l m w _ (λi hi=>by have:=List.mem_range.1 hi;omega),qBp l m 256 h1 h2,f];rfl
theorem q0u (x a b:Int)(r:Bool)(h:decide (a<=x/\x<=b)=r)(w:WD) :
  Calls prog 86 #[.int .i64 x,.int .i64 a,.int .i64 b] w λe w'=>e=.returned (.bool r)/\w=w':=by
 subst h;go_enter func86,ntmps86
 go_wp2;all_goals
  go_ret;refine⟨congrArg (λx=>Ending.returned (Value.bool x)) ?_,rfl⟩;first
   |exact (AH (by omega)).symm
   |exact decide_eq_decide.2 (by omega)
   |(rw[Bool.eq_iff_iff];simp;omega)
def P8 (b:Bool):Int:=if b=true then 1 else 0
theorem qnm (b:Bool)(w:WD) :
  Calls prog 199 #[.bool b] w λe w'=>e=.returned (.int .i64 (P8 b))/\w=w':=by
 cases b;all_goals
  go_enter func199,ntmps199
  go_wp2;go_ret;exact⟨rfl,rfl⟩
def Sj (c:Nat):Bool:=decide ((97<=c/\c<=122)\/(48<=c/\c<=57)\/c=45)
def Qao (s:ByteArray):Bool:=(List.range s.size).all λj=>Sj (Vd s.data.toList j)
def Ep (s:ByteArray):Bool:=Qao s&&decide (1<=s.size/\s.size<=10)
theorem qBq {s:ByteArray}{j:Nat}(e:j<s.size)(h:Sj (Vd s.data.toList j)=false):Ep s=false:=by
 have:Qao s=false:=by
  unfold Qao;rw[List.all_eq_false];exact⟨j,List.mem_range.2 e,by rw[h];simp⟩
 unfold Ep;rw[this,Bool.false_and]
theorem qzf {s:ByteArray}(h:∀j,j<s.size->Sj (Vd s.data.toList j)=true):Ep s=decide (1<=s.size/\s.size<=10):=by
 have:Qao s=true:=by
  unfold Qao;rw[List.all_eq_true];exact λj e=>h j (List.mem_range.1 e)
 unfold Ep;rw[this,Bool.true_and]
theorem qzg (s:ByteArray)(k:Nat)(e:k<s.size)(w:WD):(Instr.index 9 (.string s) (.int .i64 (k:Int))).run prog w=.ok (.int .u8 (Vd s.data.toList k:Int)) w:=by
 rw[run_index_string w 9 s .i64 _ underlying9,dif_pos (by omega)];congr 3
 unfold Vd;rw[AG,AC (by simpa using e)];simp[ByteArray.getElem_eq_getElem_data]
theorem q7x (s:ByteArray)(r:Bool)(P:Ep s=r)(w:WD)(hm:s.size<=maxLen) :
  Calls prog 149 #[.string s] w λe w'=>e=.returned (.bool r)/\w=w':=by
 subst P;unfold maxLen at hm;go_enter func149,ntmps149
 go_wp2_with fail
 go_loop [7] (λi=>∃k:Nat,k<=s.size/\i=.int .i64 (k:Int)/\∀j<k,Sj (Vd s.data.toList j)=true) (λi=>s.size-(intOf i).toNat)
 case atStart=>exact⟨0,AW _,rfl,λj M=>by omega⟩
 case round=>
  obtain⟨k,Q,rfl,m⟩:=hrel;by_cases B:k<s.size
  ·have I:=qzg s k B;have q:=λh=>qBq (s:=s) (j:=k) B h
   obtain⟨c,H⟩:∃c,Vd s.data.toList k=c:=⟨_,rfl⟩;have K:=q91 s.data.toList k;rw[H] at I q K;have p:=HI q;have next:Sj c=true->∀j<k+1,Sj (Vd s.data.toList j)=true:=λh j M=>by
    by_cases J:j=k
    ·rw[J,H];exact h
    ·exact m j (by omega)
   have f:=HI next;have O:(0:Int)<=(k:Int):=by omega
   clear q next m H;rcases (by omega:(97<=c/\c<=122)\/122<c\/(57<c/\c<97)\/(48<=c/\c<=57)\/(c<48/\c≠45)\/c=45) with h|h|h|h|h|h
   ·have D:decide ((c:Int)<97)=false:=AH (by omega);have E:decide (122<(c:Int))=false:=AH (by omega);have F:decide ((c:Int)<48)=false:=AH (by omega);have G:decide (57<(c:Int))=true:=AL (by omega);go_wp2;exact⟨⟨k+1,by omega,by go_num,f.out (AL (by omega))⟩,by simp[intOf];omega⟩
   ·have D:decide ((c:Int)<97)=false:=AH (by omega);have E:decide (122<(c:Int))=true:=AL (by omega);have F:decide ((c:Int)<48)=false:=AH (by omega);have G:decide (57<(c:Int))=true:=AL (by omega);have u:¬(c:Int)=45:=by omega
    go_wp2;go_ret;exact⟨by rw[p.out (AH (by omega))];rfl,rfl⟩
   ·have D:decide ((c:Int)<97)=true:=AL (by omega);have E:decide (122<(c:Int))=false:=AH (by omega);have F:decide ((c:Int)<48)=false:=AH (by omega);have G:decide (57<(c:Int))=true:=AL (by omega);have u:¬(c:Int)=45:=by omega
    go_wp2;go_ret;exact⟨by rw[p.out (AH (by omega))];rfl,rfl⟩
   ·have D:decide ((c:Int)<97)=true:=AL (by omega);have E:decide (122<(c:Int))=false:=AH (by omega);have F:decide ((c:Int)<48)=false:=AH (by omega);have G:decide (57<(c:Int))=false:=AH (by omega);go_wp2;exact⟨⟨k+1,by omega,by go_num,f.out (AL (by omega))⟩,by simp[intOf];omega⟩
   ·have D:decide ((c:Int)<97)=true:=AL (by omega);have E:decide (122<(c:Int))=false:=AH (by omega);have F:decide ((c:Int)<48)=true:=AL (by omega);have G:decide (57<(c:Int))=false:=AH (by omega);have u:¬(c:Int)=45:=by omega
    go_wp2;go_ret;exact⟨by rw[p.out (AH (by omega))];rfl,rfl⟩
   ·subst h;go_wp2;exact⟨⟨k+1,by omega,by go_num,f.out (by decide)⟩,by simp[intOf];omega⟩
  ·have y:k=s.size:=by omega
   have A:=HI (qzf (s:=s) (by rw[<-y];exact m));clear y m;go_wp2_with fail
   refine (q0u (s.size:Int) 1 10 _ rfl w).mono ?_;rintro e R ⟨rfl,rfl⟩;go_wp2;go_ret;exact⟨by rw[A.out];exact congrArg (λx=>Ending.returned (Value.bool x)) (by rw[Bool.eq_iff_iff];simp;omega),rfl⟩
def Qam (l:LU)(k a:Int):Bool:=okB l&&decide ((Yz l).kind=k/\(Yz l).addr=a)
theorem qad (h:Hd)(l:LU)(_:l.length<=236):(Zn h l).take 4=Qx (more 0 (Yx h l):Nat) 4/\(Zn h l).drop 4=Yx h l:=
 ⟨List.take_left' (by rw[J8]),List.drop_left' (by rw[J8])⟩
theorem q1p (x:Int)(m:Nat)(h0:0<=x)(h1:x<(256 ^ m:Nat)):(Qq (Qx x m):Int)=x:=by
 obtain⟨u,rfl⟩:=Int.eq_ofNat_of_zero_le h0;rw[qab,Nat.mod_eq_of_lt (by omega)]
theorem qym (h:Hd)(l:LU)(f:h.ok=true)(m:l.length<=236):Ar (((Zn h l).drop 4).take 11)=h:=by
 rw[(qad h l m).2];have e:(Yx h l).take 11=hdB h:=List.take_left' (q6p h);rw[e];obtain⟨⟨u,y⟩,⟨A,B⟩,⟨c1,c2⟩,⟨D,E⟩,F,G⟩:=AK f;obtain⟨k,a,c,v,g⟩:=h;unfold Ar hdB;dsimp only at *;have p:(Qx k 1++(Qx v 1++(Qx a 2++(Qx c 2++Qx g 5)))).take 1=Qx k 1:=List.take_left' (J8 _ _);have q:((Qx k 1++(Qx v 1++(Qx a 2++(Qx c 2++Qx g 5)))).drop 1).take 1=Qx v 1:=by rw[List.drop_left' (J8 _ _)];exact List.take_left' (J8 _ _)
 have t3:((Qx k 1++(Qx v 1++(Qx a 2++(Qx c 2++Qx g 5)))).drop 2).take 2=Qx a 2:=by
  rw[<-AM,List.drop_left' (by simp[J8])];exact List.take_left' (J8 _ _)
 have t4:((Qx k 1++(Qx v 1++(Qx a 2++(Qx c 2++Qx g 5)))).drop 4).take 2=Qx c 2:=by
  rw[<-AM,<-AM,List.drop_left' (by simp[J8])];exact List.take_left' (J8 _ _)
 have t5:((Qx k 1++(Qx v 1++(Qx a 2++(Qx c 2++Qx g 5)))).drop 6).take 5=Qx g 5:=by
  rw[<-AM,<-AM,<-AM,List.drop_left' (by simp[J8])];exact AN (by rw[J8];omega)
 rw[p,q,t3,t4,t5,q1p k 1 (by omega) (by omega),q1p v 1 (by omega) (by omega),q1p a 2 (by omega) (by omega),q1p c 2 (by omega) (by omega),q1p g 5 (by omega) (by omega)]
theorem qj0 (h:Hd)(l:LU)(f:h.ok=true)(m:l.length<=236):okB (Zn h l)=true:=by
 obtain⟨q,p⟩:=qad h l m;refine AL ⟨q7h h l m,?_,by rw[qym h l f m];exact f,?_⟩
 ·unfold Gh;rw[q,p]
 ·have e:(Zn h l).drop 15=List.replicate 5 0++(l++List.replicate (236-l.length) 0):=by
   have:(Zn h l).drop 15=(Yx h l).drop 11:=by rw[<-p,List.drop_drop]
   rw[this];exact List.drop_left' (q6p h)
  rw[e,List.take_left' (by simp)];rfl
theorem ql8 (h:Hd)(l:LU)(e:l.length<=236):(Zn h l).drop 20=l++List.replicate (236-l.length) 0:=by
 obtain⟨m,f⟩:=qad h l e;have:(Zn h l).drop 20=(Yx h l).drop 16:=by rw[<-f,List.drop_drop]
 rw[this];unfold Yx;rw[<-AM];exact List.drop_left' (by simp[q6p])
theorem q5a (h:Hd)(l:LU)(e:h.ok=true)(f:l.length<=236):Yz (Zn h l)=h/\U8 (Zn h l)=l++List.replicate (236-l.length) 0/\Nv (Zn h l)=0:=by
 obtain⟨h1,h2,m⟩:=q7j (qj0 h l e f);exact⟨by rw[h1,qym h l e f],by rw[h2,ql8 h l f],m⟩
theorem qpz (h:Hd)(l:LU)(e:h.ok=true)(f:l.length<=236)(k a:Int):Qam (Zn h l) k a=decide (h.kind=k/\h.addr=a):=by
 unfold Qam;rw[qj0 h l e f,(q5a h l e f).1,Bool.true_and]
theorem q3n (a:LU)(m:Nat)(h:a.length=m):Qx (Qq a:Nat) m=a:=by
 subst h;exact ql4 (J8 _ _) (by rw[qab,Nat.mod_eq_of_lt (q3m a)])
theorem qv4 (r:LU)(h:r.length=11):hdB (Ar r)=r:=by
 unfold hdB Ar;dsimp only;rw[q3n _ 1 (by simp;omega),q3n _ 1 (by simp;omega),q3n _ 2 (by simp;omega),q3n _ 2 (by simp;omega),q3n _ 5 (by simp;omega)];have p:(r.drop 6).take 5=r.drop 6:=AN (by simp;omega);have m:(r.drop 4).take 2++r.drop 6=r.drop 4:=by have:=AV 2 (r.drop 4);rwa [List.drop_drop] at this
 have f:(r.drop 2).take 2++r.drop 4=r.drop 2:=by have:=AV 2 (r.drop 2);rwa [List.drop_drop] at this
 have e:(r.drop 1).take 1++r.drop 2=r.drop 1:=by have:=AV 1 (r.drop 1);rwa [List.drop_drop] at this
 rw[p,m,f,e,AV]
theorem ql9 {a:LU}(h:Y9 a=true):a=List.replicate a.length 0:=by
 refine List.eq_replicate_iff.2 ⟨rfl,λx e=>?_⟩;simpa using List.all_eq_true.1 h x e
theorem qzh (l:LU)(h:okB l=true):Xr (Yz l) (l.drop 20)=0/\Xw (Yz l) (l.drop 20)=l:=by
 obtain⟨B,y,f,A⟩:=AK h;have q:=(q7j h).1;have e:(l.drop 20).length<=236:=by simp;omega
 unfold Xr Xw;rw[q,AA f,AA e,AA f,AA e];refine⟨rfl,?_⟩;have u:Yx (Ar ((l.drop 4).take 11)) (l.drop 20)=l.drop 4:=by
  unfold Yx;rw[qv4 _ (by simp;omega)];have z:=ql9 A;rw[show ((l.drop 15).take 5).length=5 by simp;omega] at z;rw[<-z,show 236-(l.drop 20).length=0 by simp;omega];have p:(l.drop 15).take 5++l.drop 20=l.drop 15:=by have:=AV 5 (l.drop 15);rwa [List.drop_drop] at this
  have m:(l.drop 4).take 11++l.drop 15=l.drop 4:=by have:=AV 11 (l.drop 4);rwa [List.drop_drop] at this
  simp only[List.replicate_zero,BM];rw[p,m]
 unfold Zn;rw[u];have:Qx (more 0 (l.drop 4):Nat) 4=l.take 4:=y.symm;rw[this,AV]
theorem q6y (h:Hd)(l:LU)(e:Xr h l=0):h.ok=true/\l.length<=236/\Xw h l=Zn h l:=by
 unfold Xr at e;unfold Xw;split at e
 ·rename_i f;split at e
  ·rename_i m;exact⟨f,m,by rw[AA f,AA m]⟩
  ·cases e
 ·cases e
