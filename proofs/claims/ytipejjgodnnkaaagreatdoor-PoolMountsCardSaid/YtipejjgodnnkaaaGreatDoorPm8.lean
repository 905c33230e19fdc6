/- A superblock as plain data: its cells, the blocks that hold one, or a subvolume; what a la -/
import Derived.Test.YtipejjgodnnkaaaGreatDoorPm7
import Derived.DeepKeys
namespace Go.Proofs.YtipejjgodnnkaaaGreatDoor
open Go Go.RowKit Go.Proofs
set_option maxHeartbeats 4000000
set_option maxRecDepth 10000
structure Vl where
 name:ByteArray
 ro:Bool
 root:Int
 next:Int
def Vl.vs (v:Vl):List Value:=[.string v.name,.bool v.ro,.int .i64 v.root,.int .i64 v.next]
def Vl.v (v:Vl):Value:=.agg #[.string v.name,.bool v.ro,.int .i64 v.root,.int .i64 v.next]
def Vl.zero:Vl:=⟨⟨#[]⟩,false,0,0⟩
def Vl.same (a b:Vl):Bool:=a.name.toList==b.name.toList&&a.ro==b.ro&&a.root==b.root&&a.next==b.next
theorem Vl.ext' {a b:Vl}(h1:a.name=b.name)(h2:a.ro=b.ro)(h3:a.root=b.root)(h4:a.next=b.next):a=b:=by
 cases a;cases b;simp_all
theorem Vl.same_iff (a b:Vl):a.same b=true↔a=b:=by
 unfold Vl.same
 rw[ByteArray.toList_eq,ByteArray.toList_eq]
 constructor
 ·intro h
  simp only[Bool.and_eq_true,beq_iff_eq] at h
  obtain⟨⟨⟨h1,h2⟩,h3⟩,h4⟩:=h
  refine Vl.ext' ?_ h2 h3 h4
  obtain⟨⟨⟨x⟩⟩,_,_,_⟩:=a
  obtain⟨⟨⟨y⟩⟩,_,_,_⟩:=b
  simpa using h1
 ·rintro rfl
  simp
structure Sp where
 gen:Int
 sectors:Int
 log:Int
 vols:List Vl
 len:vols.length=8
def Sp.vs (S:Sp):List Value:=.int .i64 S.gen::.int .i64 S.sectors::.int .i64 S.log::S.vols.flatMap Vl.vs
def Sp.v (S:Sp):Value:=.agg S.vs.toArray
def Sp.zero:Sp:=⟨0,0,0,List.replicate 8 Vl.zero,rfl⟩
def Sp.setV (S:Sp)(k:Nat)(v:Vl):Sp:=⟨S.gen,S.sectors,S.log,S.vols.set k v,by rw[List.length_set];exact S.len⟩
def Sp.at_ (S:Sp)(k:Nat):Vl:=S.vols.getD k Vl.zero
theorem Sp.ext' {a b:Sp}(h1:a.gen=b.gen)(h2:a.sectors=b.sectors)(h3:a.log=b.log)(h4:a.vols=b.vols):a=b:=by
 cases a;cases b;simp_all
theorem Sp.get (S:Sp){k:Nat}(hk:k<8):S.vols[k]?=some (S.at_ k):=by
 have:=S.len
 simp[Sp.at_,List.getD,show k<S.vols.length by omega]
theorem vs_len (v:Vl):v.vs.length=4:=rfl
theorem qmv (l:List Vl):(l.flatMap Vl.vs).length=4*l.length:=by
 induction l with
 |nil=>rfl
 |cons v l ih=>rw[List.flatMap_cons,List.length_append,ih,vs_len,List.length_cons];omega
theorem Sp.vs_len (S:Sp):S.vs.length=35:=by unfold Sp.vs;simp only[List.length_cons,qmv,S.len]
theorem qqf:∀(l:List Vl) (k:Nat) (v:Vl),l[k]?=some v→∀(j:Nat) x,v.vs[j]?=some x→(l.flatMap Vl.vs)[4*k+j]?=some x
 |[],k,v,h,_,_,_=>by simp at h
 |u::l,0,v,h,j,x,hx=>by
  obtain rfl:u=v:=by simpa using h
  rw[List.flatMap_cons,Nat.mul_zero,Nat.zero_add,List.getElem?_append_left (List.getElem?_eq_some_iff.1 hx).1]
  exact hx
 |u::l,k+1,v,h,j,x,hx=>by
  rw[List.flatMap_cons,List.getElem?_append_right (by rw[Go.Proofs.YtipejjgodnnkaaaGreatDoor.vs_len];omega),Go.Proofs.YtipejjgodnnkaaaGreatDoor.vs_len,show 4*(k+1)+j-4=4*k+j by omega]
  exact qqf l k v (by simpa using h) j x hx
theorem Sp.cell (S:Sp){k:Nat}(hk:k<8){j:Nat}{x:Value}(hx:(S.at_ k).vs[j]?=some x):S.vs[3+4*k+j]?=some x:=by
 unfold Sp.vs
 rw[show 3+4*k+j=(4*k+j)+1+1+1 by omega]
 simp only[List.getElem?_cons_succ]
 exact qqf _ k _ (S.get hk) j x hx
theorem qqg:∀(l:List Vl) (k:Nat) (v:Vl),k<l.length→(l.set k v).flatMap Vl.vs=splice (l.flatMap Vl.vs) (4*k) v.vs
 |[],k,v,h=>by simp at h
 |u::l,0,v,h=>by
  unfold splice
  rw[List.set_cons_zero,List.flatMap_cons,List.flatMap_cons,Nat.mul_zero,List.take_zero,List.nil_append,Nat.zero_add,List.drop_left' (by rfl)]
 |u::l,k+1,v,h=>by
  rw[List.set_cons_succ,List.flatMap_cons,List.flatMap_cons,qqg l k v (by simpa using h)]
  unfold splice
  rw[show 4*(k+1)=u.vs.length+4*k by rw[Go.Proofs.YtipejjgodnnkaaaGreatDoor.vs_len];omega,List.take_length_add_append,Nat.add_assoc,List.drop_length_add_append,List.append_assoc]
theorem Sp.vs_set (S:Sp){k:Nat}(hk:k<8)(v:Vl):(S.setV k v).vs=splice S.vs (3+4*k) v.vs:=by
 have h:=qqg S.vols k v (by rw[S.len];exact hk)
 unfold Sp.vs Sp.setV
 dsimp only
 rw[h]
 unfold splice
 rw[show 3+4*k=4*k+1+1+1 by omega,show 4*k+1+1+1+v.vs.length=(4*k+v.vs.length)+1+1+1 by omega]
 simp only[List.take_succ_cons,List.drop_succ_cons,List.cons_append]
theorem Sp.one (S:Sp):∀x∈S.vs,x.oneCell'=true:=by
 intro x hx
 unfold Sp.vs at hx
 simp only[List.mem_cons,List.mem_flatMap,Vl.vs,List.not_mem_nil,or_false] at hx
 rcases hx with rfl|rfl|rfl|⟨v,_,rfl|rfl|rfl|rfl⟩<;>rfl
def SB (w:World)(b:Nat)(S:Sp):Prop:=∃t,w.heap[b]?=some (.cells S.vs.toArray t (0,0))
def VB (w:World)(b:Nat)(v:Vl):Prop:=∃t,w.heap[b]?=some (.cells v.vs.toArray t (0,0))
section
variable {w w':World}{b:Nat}{S:Sp}{v:Vl}
theorem SB.new (w:World)(S:Sp)(t:TypeId):SB (w.alloc (.cells S.vs.toArray t)) w.heap.size S:=⟨t,heap_alloc_new w _⟩
theorem VB.new (w:World)(v:Vl)(t:TypeId):VB (w.alloc (.cells v.vs.toArray t)) w.heap.size v:=⟨t,heap_alloc_new w _⟩
theorem SB.lt (H:SB w b S):b<w.heap.size:=by
 obtain⟨t,H⟩:=H
 exact (Array.getElem?_eq_some_iff.1 H).1
theorem VB.lt (H:VB w b v):b<w.heap.size:=by
 obtain⟨t,H⟩:=H
 exact (Array.getElem?_eq_some_iff.1 H).1
theorem SB.block (H:SB w b S)(h:w'.heap[b]?=w.heap[b]?):SB w' b S:=by
 obtain⟨t,H⟩:=H
 exact⟨t,h.trans H⟩
theorem VB.block (H:VB w b v)(h:w'.heap[b]?=w.heap[b]?):VB w' b v:=by
 obtain⟨t,H⟩:=H
 exact⟨t,h.trans H⟩
theorem SB.below (H:SB w b S){B:Nat}(hb:Below B w w')(hB:b<B):SB w' b S:=H.block (hb.block b hB)
theorem VB.below (H:VB w b v){B:Nat}(hb:Below B w w')(hB:b<B):VB w' b v:=H.block (hb.block b hB)
theorem SB.range (H:SB w b S):w.rangeAt b 0 S.vs:=fun j x hx=>by
 obtain⟨t,H⟩:=H
 rw[cell_of_row _ _ _ _ _ _ H,Nat.zero_add]
 simpa using hx
theorem VB.range (H:VB w b v):w.rangeAt b 0 v.vs:=fun j x hx=>by
 obtain⟨t,H⟩:=H
 rw[cell_of_row _ _ _ _ _ _ H,Nat.zero_add]
 simpa using hx
theorem SB.c0 (H:SB w b S):w.cell? ⟨b,0,none⟩=some (.int .i64 S.gen):=H.range 0 _ rfl
theorem SB.c1 (H:SB w b S):w.cell? ⟨b,1,none⟩=some (.int .i64 S.sectors):=H.range 1 _ rfl
theorem SB.c2 (H:SB w b S):w.cell? ⟨b,2,none⟩=some (.int .i64 S.log):=H.range 2 _ rfl
theorem VB.c0 (H:VB w b v):w.cell? ⟨b,0,none⟩=some (.string v.name):=H.range 0 _ rfl
theorem VB.c1 (H:VB w b v):w.cell? ⟨b,1,none⟩=some (.bool v.ro):=H.range 1 _ rfl
theorem VB.c2 (H:VB w b v):w.cell? ⟨b,2,none⟩=some (.int .i64 v.root):=H.range 2 _ rfl
theorem VB.c3 (H:VB w b v):w.cell? ⟨b,3,none⟩=some (.int .i64 v.next):=H.range 3 _ rfl
theorem SB.vol (H:SB w b S){k:Nat}(hk:k<8):w.rangeAt b (3+4*k) (S.at_ k).vs:=fun j x hx=>by
 have:=H.range (3+4*k+j) x (S.cell hk hx)
 rwa [Nat.zero_add] at this
theorem SB.vols (H:SB w b S):w.rangeAt b 3 (S.vols.flatMap Vl.vs):=fun j x hx=>by
 have:=H.range (3+j) x (by unfold Sp.vs;rw[show 3+j=j+1+1+1 by omega];exact hx)
 rwa [Nat.zero_add] at this
theorem SB.sls (H:SB w b S):Sls w 4 (some ⟨b,3,none⟩) 8 8 (S.vols.map Vl.vs):=by
 refine⟨by rw[List.length_map,S.len],Nat.le_refl _,by unfold maxLen;omega,fun j x hx=>?_⟩
 have hj:j<8:=by have:=(List.getElem?_eq_some_iff.1 hx).1;rw[List.length_map,S.len] at this;exact this
 rw[List.getElem?_map,S.get hj] at hx
 obtain rfl:(S.at_ j).vs=x:=by simpa using hx
 refine⟨b,3,rfl,H.lt,rfl,?_⟩
 have:=H.vol hj
 rwa [Nat.mul_comm] at this
theorem SB.there (H:SB w b S):w.there b 0 35:=fun j hj=>by
 obtain⟨t,H⟩:=H
 refine⟨?_,by unfold World.frozen?;rw[H];simp⟩
 rw[cell_of_row _ _ _ _ _ _ H,Nat.zero_add,Array.getElem?_eq_getElem (by rw[List.size_toArray,S.vs_len];exact hj)];rfl
theorem VB.there (H:VB w b v):w.there b 0 4:=fun j hj=>by
 obtain⟨t,H⟩:=H
 refine⟨?_,by unfold World.frozen?;rw[H];simp⟩
 rw[cell_of_row _ _ _ _ _ _ H,Nat.zero_add,Array.getElem?_eq_getElem (by simpa [Vl.vs] using hj)];rfl
theorem SB.fz (H:SB w b S)(j:Nat):w.frozen? ⟨b,j,none⟩=false:=by
 obtain⟨t,H⟩:=H
 unfold World.frozen?
 rw[H]
 simp
theorem VB.fz (H:VB w b v)(j:Nat):w.frozen? ⟨b,j,none⟩=false:=by
 obtain⟨t,H⟩:=H
 unfold World.frozen?
 rw[H]
 simp
end
theorem q17 {w:World}{b:Nat}{S:Sp}(H:SB w b S):(loadVar 56 ⟨b,0,none⟩).run Tryz.prog w=.ok S.v w:=
 run_loadVar_mid w b 0 56 S.vs _ H.range Tryz.underlying56 rfl (by rw[S.vs_len];kernel_rfl)
theorem qsf {w:World}{b:Nat}{v:Vl}(H:VB w b v):(loadVar 32 ⟨b,0,none⟩).run Tryz.prog w=.ok v.v w:=
 run_loadVar_mid w b 0 32 v.vs _ H.range Tryz.underlying32 rfl (by kernel_rfl)
def ckOk (l:List UInt8)(k a:Int):Bool:=okB l&&decide ((opH l).kind=k∧(opH l).addr=a)
def ckH (l:List UInt8)(k a:Int):Hd:=if ckOk l k a=true then opH l else Hd.zero
def ckB (l:List UInt8)(k a:Int):List UInt8:=if ckOk l k a=true then l.drop 20 else []
def ckE (l:List UInt8)(k a:Int):Int:=if ckOk l k a=true then 0 else 3
theorem qbw {l:List UInt8}{k a:Int}(h:ckOk l k a=false):ckH l k a=Hd.zero∧ckB l k a=[]∧ckE l k a=3:=by
 unfold ckH ckB ckE
 rw[h]
 exact⟨rfl,rfl,rfl⟩
theorem qao {l:List UInt8}{k a:Int}(h:ckOk l k a=true):ckH l k a=opH l∧ckB l k a=l.drop 20∧ckE l k a=0:=by
 unfold ckH ckB ckE
 rw[h]
 exact⟨rfl,rfl,rfl⟩
theorem q9f (h:Hd)(l:List UInt8)(_hl:l.length≤236):(blkL h l).take 4=dig (more 0 (restL h l):Nat) 4∧(blkL h l).drop 4=restL h l:=
 ⟨List.take_left' (by rw[q0b]),List.drop_left' (by rw[q0b])⟩
theorem q1l (x:Int)(m:Nat)(h0:0≤x)(h1:x<(256 ^ m:Nat)):(numL (dig x m):Int)=x:=by
 obtain⟨u,rfl⟩:=Int.eq_ofNat_of_zero_le h0
 rw[q6b,Nat.mod_eq_of_lt (by omega)]
theorem qqh (h:Hd)(l:List UInt8)(hok:h.ok=true)(hl:l.length≤236):hdOf (((blkL h l).drop 4).take 11)=h:=by
 rw[(q9f h l hl).2]
 have e:(restL h l).take 11=hdB h:=List.take_left' (q3v h)
 rw[e]
 obtain⟨⟨a1,a2⟩,⟨b1,b2⟩,⟨c1,c2⟩,⟨d1,d2⟩,e1,e2⟩:=of_decide_eq_true hok
 obtain⟨k,a,c,v,g⟩:=h
 unfold hdOf hdB
 dsimp only at *
 have t1:(dig k 1++(dig v 1++(dig a 2++(dig c 2++dig g 5)))).take 1=dig k 1:=List.take_left' (q0b _ _)
 have t2:((dig k 1++(dig v 1++(dig a 2++(dig c 2++dig g 5)))).drop 1).take 1=dig v 1:=by rw[List.drop_left' (q0b _ _)];exact List.take_left' (q0b _ _)
 have t3:((dig k 1++(dig v 1++(dig a 2++(dig c 2++dig g 5)))).drop 2).take 2=dig a 2:=by
  rw[←List.append_assoc,List.drop_left' (by simp[q0b])];exact List.take_left' (q0b _ _)
 have t4:((dig k 1++(dig v 1++(dig a 2++(dig c 2++dig g 5)))).drop 4).take 2=dig c 2:=by
  rw[←List.append_assoc,←List.append_assoc,List.drop_left' (by simp[q0b])];exact List.take_left' (q0b _ _)
 have t5:((dig k 1++(dig v 1++(dig a 2++(dig c 2++dig g 5)))).drop 6).take 5=dig g 5:=by
  rw[←List.append_assoc,←List.append_assoc,←List.append_assoc,List.drop_left' (by simp[q0b])];exact List.take_of_length_le (by rw[q0b];omega)
 rw[t1,t2,t3,t4,t5,q1l k 1 (by omega) (by omega),q1l v 1 (by omega) (by omega),q1l a 2 (by omega) (by omega),q1l c 2 (by omega) (by omega),q1l g 5 (by omega) (by omega)]
theorem qfu (h:Hd)(l:List UInt8)(hok:h.ok=true)(hl:l.length≤236):okB (blkL h l)=true:=by
 obtain⟨p1,p2⟩:=q9f h l hl
 refine decide_eq_true ⟨q68 h l hl,?_,by rw[qqh h l hok hl];exact hok,?_⟩
 ·unfold sumB
  rw[p1,p2]
 ·have e:(blkL h l).drop 15=List.replicate 5 0++(l++List.replicate (236-l.length) 0):=by
   have:(blkL h l).drop 15=(restL h l).drop 11:=by rw[←p2,List.drop_drop]
   rw[this]
   exact List.drop_left' (q3v h)
  rw[e,List.take_left' (by simp)]
  rfl
theorem q7w (h:Hd)(l:List UInt8)(hl:l.length≤236):(blkL h l).drop 20=l++List.replicate (236-l.length) 0:=by
 obtain⟨p1,p2⟩:=q9f h l hl
 have:(blkL h l).drop 20=(restL h l).drop 16:=by rw[←p2,List.drop_drop]
 rw[this]
 unfold restL
 rw[←List.append_assoc]
 exact List.drop_left' (by simp[q3v])
theorem q42 (h:Hd)(l:List UInt8)(hok:h.ok=true)(hl:l.length≤236):opH (blkL h l)=h∧opB (blkL h l)=l++List.replicate (236-l.length) 0∧opE (blkL h l)=0:=by
 obtain⟨h1,h2,h3⟩:=q2f (qfu h l hok hl)
 exact⟨by rw[h1,qqh h l hok hl],by rw[h2,q7w h l hl],h3⟩
theorem q9g (h:Hd)(l:List UInt8)(hok:h.ok=true)(hl:l.length≤236)(k a:Int):ckOk (blkL h l) k a=decide (h.kind=k∧h.addr=a):=by
 unfold ckOk
 rw[qfu h l hok hl,(q42 h l hok hl).1,Bool.true_and]
theorem q38 (a:List UInt8)(m:Nat)(h:a.length=m):dig (numL a:Nat) m=a:=by
 subst h
 exact qbv (q0b _ _) (by rw[q6b,Nat.mod_eq_of_lt (q4j a)])
theorem qpf (r:List UInt8)(h:r.length=11):hdB (hdOf r)=r:=by
 unfold hdB hdOf
 dsimp only
 rw[q38 _ 1 (by simp;omega),q38 _ 1 (by simp;omega),q38 _ 2 (by simp;omega),q38 _ 2 (by simp;omega),q38 _ 5 (by simp;omega)]
 have e4:(r.drop 6).take 5=r.drop 6:=List.take_of_length_le (by simp;omega)
 have e3:(r.drop 4).take 2++r.drop 6=r.drop 4:=by have:=List.take_append_drop 2 (r.drop 4);rwa [List.drop_drop] at this
 have e2:(r.drop 2).take 2++r.drop 4=r.drop 2:=by have:=List.take_append_drop 2 (r.drop 2);rwa [List.drop_drop] at this
 have e1:(r.drop 1).take 1++r.drop 2=r.drop 1:=by have:=List.take_append_drop 1 (r.drop 1);rwa [List.drop_drop] at this
 rw[e4,e3,e2,e1,List.take_append_drop]
theorem qhn {a:List UInt8}(h:allZ a=true):a=List.replicate a.length 0:=by
 refine List.eq_replicate_iff.2 ⟨rfl,fun x hx=>?_⟩
 simpa using List.all_eq_true.1 h x hx
theorem qsg (l:List UInt8)(h:okB l=true):sealE (opH l) (l.drop 20)=0∧sealB (opH l) (l.drop 20)=l:=by
 obtain⟨hl,hs,hk,hz⟩:=of_decide_eq_true h
 have hH:=(q2f h).1
 have hb:(l.drop 20).length≤236:=by simp;omega
 unfold sealE sealB
 rw[hH,if_pos hk,if_pos hb,if_pos hk,if_pos hb]
 refine⟨rfl,?_⟩
 have hr:restL (hdOf ((l.drop 4).take 11)) (l.drop 20)=l.drop 4:=by
  unfold restL
  rw[qpf _ (by simp;omega)]
  have z:=qhn hz
  rw[show ((l.drop 15).take 5).length=5 by simp;omega] at z
  rw[←z,show 236-(l.drop 20).length=0 by simp;omega]
  have e2:(l.drop 15).take 5++l.drop 20=l.drop 15:=by have:=List.take_append_drop 5 (l.drop 15);rwa [List.drop_drop] at this
  have e1:(l.drop 4).take 11++l.drop 15=l.drop 4:=by have:=List.take_append_drop 11 (l.drop 4);rwa [List.drop_drop] at this
  simp only[List.replicate_zero,List.append_nil]
  rw[e2,e1]
 unfold blkL
 rw[hr]
 have:dig (more 0 (l.drop 4):Nat) 4=l.take 4:=hs.symm
 rw[this,List.take_append_drop]
theorem q6c (h:Hd)(l:List UInt8)(hE:sealE h l=0):h.ok=true∧l.length≤236∧sealB h l=blkL h l:=by
 unfold sealE at hE
 unfold sealB
 split at hE
 ·rename_i hok
  split at hE
  ·rename_i hl
   exact⟨hok,hl,by rw[if_pos hok,if_pos hl]⟩
  ·cases hE
 ·cases hE
theorem bv_xor (x y:Nat)(hx:x≤255)(hy:y≤255):bv (UInt8.ofNat x ^^^ UInt8.ofNat y)=.int .u8 (bits .xor .u8 (x:Int) (y:Int)):=by
 rw[u8_xor_nat x y (by omega) (by omega)]
 unfold bv
 rw[UInt8.toNat_xor,UInt8.toNat_ofNat',UInt8.toNat_ofNat',Nat.mod_eq_of_lt (by omega),Nat.mod_eq_of_lt (by omega)]
def q9h (A:Option Addr)(n c:Nat)(l:List UInt8)(k a:Int)(w:World):Prop:=
  Calls Tryz.prog 79 #[.slice A n c,.int .i64 k,.int .i64 a] w fun e w'=>
   ∃A' n' c',e=.returned (.tuple #[(ckH l k a).v,.slice A' n' c',.int .i64 (ckE l k a)])∧Own w' w.heap.size 5 A' n' c' (ckB l k a)∧Below w.heap.size w w'
theorem qmw (A:Option Addr)(n c:Nat)(l:List UInt8)(k a:Int)(w:World)(hs:Sl w A n c l)(ht:Tab w):q9h A n c l k a w:=by
 unfold q9h
 have HZ:=HB.zero w 118
 have hb0:Below w.heap.size w (w.alloc (.cells #[.int .i64 0,.int .i64 0,.int .i64 0,.int .i64 0,.int .i64 0] 118)):=blA
 have hz0:w.heap.size<(w.alloc (.cells #[.int .i64 0,.int .i64 0,.int .i64 0,.int .i64 0,.int .i64 0] 118)).heap.size:=by simp
 have hO:=fun w' (h':Sl w' A n c l) (t':Tab w')=>q3y A n c l w' h' t'
 unfold q1k at hO
 cases hok:okB l
 ·obtain⟨h1,h2,h3⟩:=q4q hok
  have hno:ckOk l k a=false:=by unfold ckOk;rw[hok];rfl
  obtain⟨g1,g2,g3⟩:=qbw hno
  rw[g1,g2,g3]
  rw[h1,h2,h3] at hO
  go_enter Tryz.func79,Tryz.ntmps79
  go_wp2_with fail
  generalize (w.alloc (.cells #[.int .i64 0,.int .i64 0,.int .i64 0,.int .i64 0,.int .i64 0] 118))=w1 at HZ hb0 hz0 ⊢
  go_wp2_with (first
   |(go_at_call 132;refine (hO _ (hs.below hb0) (ht.below hb0 ht.1)).mono ?_;rintro e w3 ⟨A3,n3,c3,rfl,own3,hb3⟩;have hz3:=hb3.size;have HZ3:=HZ.below hb3 hz0;have hB3:=hb0.trans (hb3.mono hb0.size))
   |(refine q08 rfl (.tmp 9) (.tmp 15) rfl w3.heap.size rfl Hd.zero _ rfl (HB.zero w3 _) (by simp) ?_;intro w6 hr6 hb6 Tz6;obtain⟨hr6',hB6,HZ6,hz6⟩:=after6 hr6 hb6 HZ3 hB3 (by omega);have r0:=hr6 0 _ rfl;have r1:=hr6 1 _ rfl;simp only[Nat.zero_add] at r0 r1)
   |(refine q08 rfl (.tmp 6) (.tmp 20) rfl w.heap.size rfl Hd.zero _ rfl HZ6 (by omega) ?_;intro wz hrz hbz Tz)
   |fail)
  refine bodyPost_ret (q09 Tryz.results79 rfl (q0w hrz)) rfl ?_
  exact⟨_,_,_,rfl,q1h _ _ _,hB6.trans (hbz _ (Nat.le_refl _))⟩
 ·obtain⟨h1,h2,h3⟩:=q2f hok
  rw[h2,h3] at hO
  clear h1
  obtain⟨H,hH⟩:∃H,opH l=H:=⟨_,rfl⟩
  rw[hH] at hO
  by_cases hm:H.kind=k∧H.addr=a
  ·have hyes:ckOk l k a=true:=by unfold ckOk;rw[hok,hH,decide_eq_true hm];rfl
   obtain⟨g1,g2,g3⟩:=qao hyes
   rw[g1,g2,g3,hH]
   obtain⟨m1,m2⟩:=hm
   go_enter Tryz.func79,Tryz.ntmps79
   go_wp2_with fail
   generalize (w.alloc (.cells #[.int .i64 0,.int .i64 0,.int .i64 0,.int .i64 0,.int .i64 0] 118))=w1 at HZ hb0 hz0 ⊢
   go_wp2_with (first
    |(go_at_call 132;refine (hO _ (hs.below hb0) (ht.below hb0 ht.1)).mono ?_;rintro e w3 ⟨A3,n3,c3,rfl,own3,hb3⟩;have hz3:=hb3.size;have HZ3:=HZ.below hb3 hz0;have hB3:=hb0.trans (hb3.mono hb0.size))
    |(refine q08 rfl (.tmp 9) (.tmp 15) rfl w3.heap.size rfl H _ rfl (HB.zero w3 _) (by simp) ?_;intro w6 hr6 hb6 Tz6;obtain⟨hr6',hB6,HZ6,hz6⟩:=after6 hr6 hb6 HZ3 hB3 (by omega);have r0:=hr6 0 _ rfl;have r1:=hr6 1 _ rfl;simp only[Nat.zero_add] at r0 r1)
    |(refine q2o rfl (.tmp 9) rfl w3.heap.size rfl H (by assumption) ?_)
    |(refine q08 rfl (.tmp 6) (.tmp 33) rfl w.heap.size rfl H _ rfl HZ6 (by omega) ?_;intro wz hrz hbz Tz)
    |fail)
   refine bodyPost_ret (q09 Tryz.results79 rfl (q0w hrz)) rfl ?_
   have own6:=own3.turn (w':=wz) fun g hg hl=>(Tz.block g (by omega) (by show ¬g=w.heap.size;omega)).trans ((Tz6.block g (by rw[World.size_alloc];omega) (by show ¬g=w3.heap.size;omega)).trans (Below.heap_alloc _ _ _ hl))
   exact⟨_,_,_,rfl,own6.less hb0.size,hB6.trans (hbz _ (Nat.le_refl _))⟩
  ·have hno:ckOk l k a=false:=by unfold ckOk;rw[hok,hH,decide_eq_false hm];rfl
   obtain⟨g1,g2,g3⟩:=qbw hno
   rw[g1,g2,g3]
   by_cases m1:H.kind=k
   ·have m2:¬H.addr=a:=fun h=>hm ⟨m1,h⟩
    have m3:decide (H.addr=a)=false:=decide_eq_false m2
    go_enter Tryz.func79,Tryz.ntmps79
    go_wp2_with fail
    generalize (w.alloc (.cells #[.int .i64 0,.int .i64 0,.int .i64 0,.int .i64 0,.int .i64 0] 118))=w1 at HZ hb0 hz0 ⊢
    go_wp2_with (first
     |(go_at_call 132;refine (hO _ (hs.below hb0) (ht.below hb0 ht.1)).mono ?_;rintro e w3 ⟨A3,n3,c3,rfl,own3,hb3⟩;have hz3:=hb3.size;have HZ3:=HZ.below hb3 hz0;have hB3:=hb0.trans (hb3.mono hb0.size))
     |(refine q08 rfl (.tmp 9) (.tmp 15) rfl w3.heap.size rfl H _ rfl (HB.zero w3 _) (by simp) ?_;intro w6 hr6 hb6 Tz6;obtain⟨hr6',hB6,HZ6,hz6⟩:=after6 hr6 hb6 HZ3 hB3 (by omega);have r0:=hr6 0 _ rfl;have r1:=hr6 1 _ rfl;simp only[Nat.zero_add] at r0 r1)
     |(refine q08 rfl (.tmp 6) (.tmp 32) rfl w.heap.size rfl Hd.zero _ rfl HZ6 (by omega) ?_;intro wz hrz hbz Tz)
     |fail)
    refine bodyPost_ret (q09 Tryz.results79 rfl (q0w hrz)) rfl ?_
    exact⟨_,_,_,rfl,q1h _ _ _,hB6.trans (hbz _ (Nat.le_refl _))⟩
   ·have m3:decide (H.kind=k)=false:=decide_eq_false m1
    go_enter Tryz.func79,Tryz.ntmps79
    go_wp2_with fail
    generalize (w.alloc (.cells #[.int .i64 0,.int .i64 0,.int .i64 0,.int .i64 0,.int .i64 0] 118))=w1 at HZ hb0 hz0 ⊢
    go_wp2_with (first
     |(go_at_call 132;refine (hO _ (hs.below hb0) (ht.below hb0 ht.1)).mono ?_;rintro e w3 ⟨A3,n3,c3,rfl,own3,hb3⟩;have hz3:=hb3.size;have HZ3:=HZ.below hb3 hz0;have hB3:=hb0.trans (hb3.mono hb0.size))
     |(refine q08 rfl (.tmp 9) (.tmp 15) rfl w3.heap.size rfl H _ rfl (HB.zero w3 _) (by simp) ?_;intro w6 hr6 hb6 Tz6;obtain⟨hr6',hB6,HZ6,hz6⟩:=after6 hr6 hb6 HZ3 hB3 (by omega);have r0:=hr6 0 _ rfl;have r1:=hr6 1 _ rfl;simp only[Nat.zero_add] at r0 r1)
     |(refine q08 rfl (.tmp 6) (.tmp 32) rfl w.heap.size rfl Hd.zero _ rfl HZ6 (by omega) ?_;intro wz hrz hbz Tz)
     |fail)
    refine bodyPost_ret (q09 Tryz.results79 rfl (q0w hrz)) rfl ?_
    exact⟨_,_,_,rfl,q1h _ _ _,hB6.trans (hbz _ (Nat.le_refl _))⟩
def q4r (A:Option Addr)(n c:Nat)(l:List UInt8)(k a:Int)(w:World):Prop:=
  Calls Tryz.prog 83 #[.slice A n c,.int .i64 k,.int .i64 a] w fun e w'=>
   ∃A' n' c',e=.returned (.tuple #[(ckH l k a).v,.slice A' n' c',.int .i64 (ckE l k a)])∧Sl w' A' n' c' (ckB l k a)∧Below w.heap.size w w'
theorem qe8 (A:Option Addr)(n c:Nat)(l:List UInt8)(k a:Int)(w:World)(hs:Sl w A n c l):q4r A n c l k a w:=by
 unfold q4r
 have HZ:=HB.zero w 118
 have hb0:Below w.heap.size w (w.alloc (.cells #[.int .i64 0,.int .i64 0,.int .i64 0,.int .i64 0,.int .i64 0] 118)):=blA
 have hz0:w.heap.size<(w.alloc (.cells #[.int .i64 0,.int .i64 0,.int .i64 0,.int .i64 0,.int .i64 0] 118)).heap.size:=by simp
 have hO:=fun w' (h':Sl w' A n c l)=>q41 A n c l w' h'
 unfold q2x at hO
 cases hok:okB l
 ·obtain⟨h1,h2,h3⟩:=q4q hok
  have hno:ckOk l k a=false:=by unfold ckOk;rw[hok];rfl
  obtain⟨g1,g2,g3⟩:=qbw hno
  rw[g1,g2,g3]
  rw[h1,h2,h3] at hO
  go_enter Tryz.func83,Tryz.ntmps83
  go_wp2_with fail
  generalize (w.alloc (.cells #[.int .i64 0,.int .i64 0,.int .i64 0,.int .i64 0,.int .i64 0] 118))=w1 at HZ hb0 hz0 ⊢
  go_wp2_with (first
   |(go_at_call 134;refine (hO _ (hs.below hb0)).mono ?_;rintro e w3 ⟨A3,n3,c3,rfl,own3,hb3⟩;have hz3:=hb3.size;have HZ3:=HZ.below hb3 hz0;have hB3:=hb0.trans (hb3.mono hb0.size))
   |(refine q08 rfl (.tmp 9) (.tmp 15) rfl w3.heap.size rfl Hd.zero _ rfl (HB.zero w3 _) (by simp) ?_;intro w6 hr6 hb6 Tz6;obtain⟨hr6',hB6,HZ6,hz6⟩:=after6 hr6 hb6 HZ3 hB3 (by omega);have r0:=hr6 0 _ rfl;have r1:=hr6 1 _ rfl;simp only[Nat.zero_add] at r0 r1)
   |(refine q08 rfl (.tmp 6) (.tmp 32) rfl w.heap.size rfl Hd.zero _ rfl HZ6 (by omega) ?_;intro wz hrz hbz Tz)
   |fail)
  all_goals
   refine bodyPost_ret (q09 Tryz.results83 rfl (q0w hrz)) rfl ?_
   exact⟨_,_,_,rfl,q0k _,hB6.trans (hbz _ (Nat.le_refl _))⟩
 ·obtain⟨h1,h2,h3⟩:=q2f hok
  rw[h2,h3] at hO
  clear h1
  obtain⟨H,hH⟩:∃H,opH l=H:=⟨_,rfl⟩
  rw[hH] at hO
  by_cases hm:H.kind=k∧H.addr=a
  ·have hyes:ckOk l k a=true:=by unfold ckOk;rw[hok,hH,decide_eq_true hm];rfl
   obtain⟨g1,g2,g3⟩:=qao hyes
   rw[g1,g2,g3,hH]
   obtain⟨m1,m2⟩:=hm
   go_enter Tryz.func83,Tryz.ntmps83
   go_wp2_with fail
   generalize (w.alloc (.cells #[.int .i64 0,.int .i64 0,.int .i64 0,.int .i64 0,.int .i64 0] 118))=w1 at HZ hb0 hz0 ⊢
   go_wp2_with (first
    |(go_at_call 134;refine (hO _ (hs.below hb0)).mono ?_;rintro e w3 ⟨A3,n3,c3,rfl,own3,hb3⟩;have hz3:=hb3.size;have HZ3:=HZ.below hb3 hz0;have hB3:=hb0.trans (hb3.mono hb0.size))
    |(refine q08 rfl (.tmp 9) (.tmp 15) rfl w3.heap.size rfl H _ rfl (HB.zero w3 _) (by simp) ?_;intro w6 hr6 hb6 Tz6;obtain⟨hr6',hB6,HZ6,hz6⟩:=after6 hr6 hb6 HZ3 hB3 (by omega);have r0:=hr6 0 _ rfl;have r1:=hr6 1 _ rfl;simp only[Nat.zero_add] at r0 r1)
    |(refine q2o rfl (.tmp 9) rfl w3.heap.size rfl H (by assumption) ?_)
    |(refine q08 rfl (.tmp 6) (.tmp 33) rfl w.heap.size rfl H _ rfl HZ6 (by omega) ?_;intro wz hrz hbz Tz)
    |fail)
   refine bodyPost_ret (q09 Tryz.results83 rfl (q0w hrz)) rfl ?_
   have own6:=own3.turn (w':=wz) fun g hg hl=>(Tz.block g (by omega) (by show ¬g=w.heap.size;omega)).trans ((Tz6.block g (by rw[World.size_alloc];omega) (by show ¬g=w3.heap.size;omega)).trans (Below.heap_alloc _ _ _ hl))
   exact⟨_,_,_,rfl,own6.sl,hB6.trans (hbz _ (Nat.le_refl _))⟩
  ·have hno:ckOk l k a=false:=by unfold ckOk;rw[hok,hH,decide_eq_false hm];rfl
   obtain⟨g1,g2,g3⟩:=qbw hno
   rw[g1,g2,g3]
   by_cases m1:H.kind=k
   ·have m2:¬H.addr=a:=fun h=>hm ⟨m1,h⟩
    have m3:decide (H.addr=a)=false:=decide_eq_false m2
    go_enter Tryz.func83,Tryz.ntmps83
    go_wp2_with fail
    generalize (w.alloc (.cells #[.int .i64 0,.int .i64 0,.int .i64 0,.int .i64 0,.int .i64 0] 118))=w1 at HZ hb0 hz0 ⊢
    go_wp2_with (first
     |(go_at_call 134;refine (hO _ (hs.below hb0)).mono ?_;rintro e w3 ⟨A3,n3,c3,rfl,own3,hb3⟩;have hz3:=hb3.size;have HZ3:=HZ.below hb3 hz0;have hB3:=hb0.trans (hb3.mono hb0.size))
     |(refine q08 rfl (.tmp 9) (.tmp 15) rfl w3.heap.size rfl H _ rfl (HB.zero w3 _) (by simp) ?_;intro w6 hr6 hb6 Tz6;obtain⟨hr6',hB6,HZ6,hz6⟩:=after6 hr6 hb6 HZ3 hB3 (by omega);have r0:=hr6 0 _ rfl;have r1:=hr6 1 _ rfl;simp only[Nat.zero_add] at r0 r1)
     |(refine q08 rfl (.tmp 6) (.tmp 32) rfl w.heap.size rfl Hd.zero _ rfl HZ6 (by omega) ?_;intro wz hrz hbz Tz)
     |fail)
    all_goals
     refine bodyPost_ret (q09 Tryz.results83 rfl (q0w hrz)) rfl ?_
     exact⟨_,_,_,rfl,q0k _,hB6.trans (hbz _ (Nat.le_refl _))⟩
   ·have m3:decide (H.kind=k)=false:=decide_eq_false m1
    go_enter Tryz.func83,Tryz.ntmps83
    go_wp2_with fail
    generalize (w.alloc (.cells #[.int .i64 0,.int .i64 0,.int .i64 0,.int .i64 0,.int .i64 0] 118))=w1 at HZ hb0 hz0 ⊢
    go_wp2_with (first
     |(go_at_call 134;refine (hO _ (hs.below hb0)).mono ?_;rintro e w3 ⟨A3,n3,c3,rfl,own3,hb3⟩;have hz3:=hb3.size;have HZ3:=HZ.below hb3 hz0;have hB3:=hb0.trans (hb3.mono hb0.size))
     |(refine q08 rfl (.tmp 9) (.tmp 15) rfl w3.heap.size rfl H _ rfl (HB.zero w3 _) (by simp) ?_;intro w6 hr6 hb6 Tz6;obtain⟨hr6',hB6,HZ6,hz6⟩:=after6 hr6 hb6 HZ3 hB3 (by omega);have r0:=hr6 0 _ rfl;have r1:=hr6 1 _ rfl;simp only[Nat.zero_add] at r0 r1)
     |(refine q08 rfl (.tmp 6) (.tmp 32) rfl w.heap.size rfl Hd.zero _ rfl HZ6 (by omega) ?_;intro wz hrz hbz Tz)
     |fail)
    all_goals
     refine bodyPost_ret (q09 Tryz.results83 rfl (q0w hrz)) rfl ?_
     exact⟨_,_,_,rfl,q0k _,hB6.trans (hbz _ (Nat.le_refl _))⟩
def q5l (A:Option Addr)(n c:Nat)(l:List UInt8)(k a:Int)(w:World):Prop:=
  Calls Tryz.prog 83 #[.slice A n c,.int .i64 k,.int .i64 a] w fun e w'=>
   ∃A' n' c',e=.returned (.tuple #[(ckH l k a).v,.slice A' n' c',.int .i64 (ckE l k a)])∧Sl w' A' n' c' (ckB l k a)∧Below w.heap.size w w'∧∀ad,A'=some ad→w.heap.size≤ad.block∧ad.block<w'.heap.size
theorem qe9 (A:Option Addr)(n c:Nat)(l:List UInt8)(k a:Int)(w:World)(hs:Sl w A n c l):q5l A n c l k a w:=by
 unfold q5l
 have HZ:=HB.zero w 118
 have hb0:Below w.heap.size w (w.alloc (.cells #[.int .i64 0,.int .i64 0,.int .i64 0,.int .i64 0,.int .i64 0] 118)):=blA
 have hz0:w.heap.size<(w.alloc (.cells #[.int .i64 0,.int .i64 0,.int .i64 0,.int .i64 0,.int .i64 0] 118)).heap.size:=by simp
 have hO:=fun w' (h':Sl w' A n c l)=>q41 A n c l w' h'
 unfold q2x at hO
 cases hok:okB l
 ·obtain⟨h1,h2,h3⟩:=q4q hok
  have hno:ckOk l k a=false:=by unfold ckOk;rw[hok];rfl
  obtain⟨g1,g2,g3⟩:=qbw hno
  rw[g1,g2,g3]
  rw[h1,h2,h3] at hO
  go_enter Tryz.func83,Tryz.ntmps83
  go_wp2_with fail
  generalize (w.alloc (.cells #[.int .i64 0,.int .i64 0,.int .i64 0,.int .i64 0,.int .i64 0] 118))=w1 at HZ hb0 hz0 ⊢
  go_wp2_with (first
   |(go_at_call 134;refine (hO _ (hs.below hb0)).mono ?_;rintro e w3 ⟨A3,n3,c3,rfl,own3,hb3⟩;have hz3:=hb3.size;have HZ3:=HZ.below hb3 hz0;have hB3:=hb0.trans (hb3.mono hb0.size))
   |(refine q08 rfl (.tmp 9) (.tmp 15) rfl w3.heap.size rfl Hd.zero _ rfl (HB.zero w3 _) (by simp) ?_;intro w6 hr6 hb6 Tz6;obtain⟨hr6',hB6,HZ6,hz6⟩:=after6 hr6 hb6 HZ3 hB3 (by omega);have r0:=hr6 0 _ rfl;have r1:=hr6 1 _ rfl;simp only[Nat.zero_add] at r0 r1)
   |(refine q08 rfl (.tmp 6) (.tmp 32) rfl w.heap.size rfl Hd.zero _ rfl HZ6 (by omega) ?_;intro wz hrz hbz Tz)
   |fail)
  all_goals
   refine bodyPost_ret (q09 Tryz.results83 rfl (q0w hrz)) rfl ?_
   exact⟨_,_,_,rfl,q0k _,hB6.trans (hbz _ (Nat.le_refl _)),fun ad h=>(by cases h)⟩
 ·obtain⟨h1,h2,h3⟩:=q2f hok
  rw[h2,h3] at hO
  clear h1
  obtain⟨H,hH⟩:∃H,opH l=H:=⟨_,rfl⟩
  rw[hH] at hO
  by_cases hm:H.kind=k∧H.addr=a
  ·have hyes:ckOk l k a=true:=by unfold ckOk;rw[hok,hH,decide_eq_true hm];rfl
   obtain⟨g1,g2,g3⟩:=qao hyes
   rw[g1,g2,g3,hH]
   obtain⟨m1,m2⟩:=hm
   go_enter Tryz.func83,Tryz.ntmps83
   go_wp2_with fail
   generalize (w.alloc (.cells #[.int .i64 0,.int .i64 0,.int .i64 0,.int .i64 0,.int .i64 0] 118))=w1 at HZ hb0 hz0 ⊢
   go_wp2_with (first
    |(go_at_call 134;refine (hO _ (hs.below hb0)).mono ?_;rintro e w3 ⟨A3,n3,c3,rfl,own3,hb3⟩;have hz3:=hb3.size;have HZ3:=HZ.below hb3 hz0;have hB3:=hb0.trans (hb3.mono hb0.size))
    |(refine q08 rfl (.tmp 9) (.tmp 15) rfl w3.heap.size rfl H _ rfl (HB.zero w3 _) (by simp) ?_;intro w6 hr6 hb6 Tz6;obtain⟨hr6',hB6,HZ6,hz6⟩:=after6 hr6 hb6 HZ3 hB3 (by omega);have r0:=hr6 0 _ rfl;have r1:=hr6 1 _ rfl;simp only[Nat.zero_add] at r0 r1)
    |(refine q2o rfl (.tmp 9) rfl w3.heap.size rfl H (by assumption) ?_)
    |(refine q08 rfl (.tmp 6) (.tmp 33) rfl w.heap.size rfl H _ rfl HZ6 (by omega) ?_;intro wz hrz hbz Tz)
    |fail)
   refine bodyPost_ret (q09 Tryz.results83 rfl (q0w hrz)) rfl ?_
   have own6:=own3.turn (w':=wz) fun g hg hl=>(Tz.block g (by omega) (by show ¬g=w.heap.size;omega)).trans ((Tz6.block g (by rw[World.size_alloc];omega) (by show ¬g=w3.heap.size;omega)).trans (Below.heap_alloc _ _ _ hl))
   exact⟨_,_,_,rfl,own6.sl,hB6.trans (hbz _ (Nat.le_refl _)),fun ad h=>⟨by have h1:=(own6.block ad h).1;have h2:=hb0.size;omega,(own6.block ad h).2⟩⟩
  ·have hno:ckOk l k a=false:=by unfold ckOk;rw[hok,hH,decide_eq_false hm];rfl
   obtain⟨g1,g2,g3⟩:=qbw hno
   rw[g1,g2,g3]
   by_cases m1:H.kind=k
   ·have m2:¬H.addr=a:=fun h=>hm ⟨m1,h⟩
    have m3:decide (H.addr=a)=false:=decide_eq_false m2
    go_enter Tryz.func83,Tryz.ntmps83
    go_wp2_with fail
    generalize (w.alloc (.cells #[.int .i64 0,.int .i64 0,.int .i64 0,.int .i64 0,.int .i64 0] 118))=w1 at HZ hb0 hz0 ⊢
    go_wp2_with (first
     |(go_at_call 134;refine (hO _ (hs.below hb0)).mono ?_;rintro e w3 ⟨A3,n3,c3,rfl,own3,hb3⟩;have hz3:=hb3.size;have HZ3:=HZ.below hb3 hz0;have hB3:=hb0.trans (hb3.mono hb0.size))
     |(refine q08 rfl (.tmp 9) (.tmp 15) rfl w3.heap.size rfl H _ rfl (HB.zero w3 _) (by simp) ?_;intro w6 hr6 hb6 Tz6;obtain⟨hr6',hB6,HZ6,hz6⟩:=after6 hr6 hb6 HZ3 hB3 (by omega);have r0:=hr6 0 _ rfl;have r1:=hr6 1 _ rfl;simp only[Nat.zero_add] at r0 r1)
     |(refine q08 rfl (.tmp 6) (.tmp 32) rfl w.heap.size rfl Hd.zero _ rfl HZ6 (by omega) ?_;intro wz hrz hbz Tz)
     |fail)
    all_goals
     refine bodyPost_ret (q09 Tryz.results83 rfl (q0w hrz)) rfl ?_
     exact⟨_,_,_,rfl,q0k _,hB6.trans (hbz _ (Nat.le_refl _)),fun ad h=>(by cases h)⟩
   ·have m3:decide (H.kind=k)=false:=decide_eq_false m1
    go_enter Tryz.func83,Tryz.ntmps83
    go_wp2_with fail
    generalize (w.alloc (.cells #[.int .i64 0,.int .i64 0,.int .i64 0,.int .i64 0,.int .i64 0] 118))=w1 at HZ hb0 hz0 ⊢
    go_wp2_with (first
     |(go_at_call 134;refine (hO _ (hs.below hb0)).mono ?_;rintro e w3 ⟨A3,n3,c3,rfl,own3,hb3⟩;have hz3:=hb3.size;have HZ3:=HZ.below hb3 hz0;have hB3:=hb0.trans (hb3.mono hb0.size))
     |(refine q08 rfl (.tmp 9) (.tmp 15) rfl w3.heap.size rfl H _ rfl (HB.zero w3 _) (by simp) ?_;intro w6 hr6 hb6 Tz6;obtain⟨hr6',hB6,HZ6,hz6⟩:=after6 hr6 hb6 HZ3 hB3 (by omega);have r0:=hr6 0 _ rfl;have r1:=hr6 1 _ rfl;simp only[Nat.zero_add] at r0 r1)
     |(refine q08 rfl (.tmp 6) (.tmp 32) rfl w.heap.size rfl Hd.zero _ rfl HZ6 (by omega) ?_;intro wz hrz hbz Tz)
     |fail)
    all_goals
     refine bodyPost_ret (q09 Tryz.results83 rfl (q0w hrz)) rfl ?_
     exact⟨_,_,_,rfl,q0k _,hB6.trans (hbz _ (Nat.le_refl _)),fun ad h=>(by cases h)⟩
end Go.Proofs.YtipejjgodnnkaaaGreatDoor
