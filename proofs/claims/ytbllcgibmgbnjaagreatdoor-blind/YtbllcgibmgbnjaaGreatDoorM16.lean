import Derived.Test.YtbllcgibmgbnjaaGreatDoorM15
import Derived.BigRegion
import Derived.Test.YtbllcgibmgbnjaaGreatDoorM04
set_option maxHeartbeats 8000000
set_option maxRecDepth 20000
namespace Go.Proofs.YtbllcgibmgbnjaaGreatDoor.P
open Go.RowKit
open C (ret_bool ret_int ret_str)
structure Claim where
 user:Tx
 list:Tx
 sig:Tx
 second:Nat
 last:Nat
def claimV (c:Claim):Value:=.agg #[str c.user,str c.list,str c.sig,.int .i64 (c.second:Int),.int .i64 (c.last:Int)]
def clPost (w:World) (o:Option Claim) (e:Ending) (w':World):Prop:=Below w.heap.size w w'∧match o with
 | some c=>e=.returned (.tuple #[claimV c,.bool true])
 | none=>∃ (u l s:Tx) (n m:Int),e=.returned (.tuple #[.agg #[str u,str l,str s,.int .i64 n,.int .i64 m],.bool false])
theorem clPost_no {w w':World} {o:Option Claim} (h:o=none) (b:Below w.heap.size w w') (u l s:Tx) (n m:Int):clPost w o (.returned (.tuple #[.agg #[str u,str l,str s,.int .i64 n,.int .i64 m],.bool false])) w':=by
 subst h;exact ⟨b,u,l,s,n,m,rfl⟩
theorem clPost_ok {w w':World} {o:Option Claim} {c:Claim} (h:o=some c) (b:Below w.heap.size w w'):clPost w o (.returned (.tuple #[claimV c,.bool true])) w':=by
 subst h;exact ⟨b,rfl⟩
def headP (v:Tx):Option Claim:=match Lib.split v [32] with
 | [a,b,c,d,e]=>if a=[76,49] then (numP c 0 1000000000000).map fun n=>⟨b,d,e,n,n+900⟩ else none
 | _=>none
theorem numP_le {t:Tx} {lo hi n:Nat} (h:numP t lo hi=some n):n≤hi∧lo≤n:=by
 unfold numP at h
 split at h
 ·split at h
  ·cases h
  ·cases h;omega
 ·cases h
abbrev zeroC:Obj:=.cells #[.string ⟨#[]⟩,.string ⟨#[]⟩,.string ⟨#[]⟩,.int .i64 0,.int .i64 0] 219
theorem five_cells (w:World) (a b c d e:Tx):∀ k (h:k < 5),(w.alloc (.cells (([a,b,c,d,e]:List Tx).map str).toArray 9)).cell? ⟨w.heap.size,k,none⟩=some (str ([a,b,c,d,e]:List Tx)[k]):=by
 intro k h
 match k,h with
 | 0,_=>simp [go_sem]
 | 1,_=>simp [go_sem]
 | 2,_=>simp [go_sem]
 | 3,_=>simp [go_sem]
 | 4,_=>simp [go_sem]
theorem rHeader_any (v:Tx) (hl:v.length≤1000000) (w:World) (G:GL w) :
  Calls Tryz.prog 166 #[str v] w (clPost w (headP v)):=by
 have b0:Below w.heap.size w (w.alloc zeroC):=(Below.refl _ _).alloc (Nat.le_refl _) _
 have S:Hid (_):=R.split_r v [32] (w.alloc zeroC) (G.call b0).env (by omega) (by decide)
 have HH:Hid (headP v=match Lib.split v [32] with|[a,b,c,d,e]=>if a=[76,49] then (numP c 0 1000000000000).map fun n=>⟨b,d,e,n,n+900⟩ else none|_=>none):=rfl
 have HL:Hid (∀ x∈Lib.split v [32],x.length≤v.length):=fun x hx=>R.split_mem (by decide) hx
 generalize Lib.split v [32]=l at *
 by_cases h5:l.length=5
 ·obtain ⟨a,b,c,d,e,rfl⟩:∃ a b c d e,l=[a,b,c,d,e]:=by
   match l,h5 with
   | [a,b,c,d,e],_=>exact ⟨a,b,c,d,e,rfl⟩
  simp only at HH
  have f5:=five_cells (w.alloc zeroC) a b c d e
  have q0:=f5 0 (by omega);have q1:=f5 1 (by omega);have q2:=f5 2 (by omega);have q3:=f5 3 (by omega);have q4:=f5 4 (by omega)
  have b1:Below w.heap.size w ((w.alloc zeroC).alloc (.cells (([a,b,c,d,e]:List Tx).map str).toArray 9)):=b0.alloc (by simp) _
  have hc:=HL.out c (by simp)
  have hzz:(w.alloc zeroC).heap.size=w.heap.size+1:=by simp
  rw [hzz] at q0 q1 q2 q3 q4
  simp only [List.getElem_cons_zero,List.getElem_cons_succ] at q0 q1 q2 q3 q4
  have z1:((w.alloc zeroC).alloc (.cells (([a,b,c,d,e]:List Tx).map str).toArray 9)).heap.size=w.heap.size+1+1:=by simp
  have g0:∀ j:Nat,((w.alloc zeroC).alloc (.cells (([a,b,c,d,e]:List Tx).map str).toArray 9)).frozen? ⟨w.heap.size,j,none⟩=false:=by intro j;simp [go_sem]
  have e0:((w.alloc zeroC).alloc (.cells (([a,b,c,d,e]:List Tx).map str).toArray 9)).cell? ⟨w.heap.size,0,none⟩=some (str []):=by simp [go_sem]
  have e1:((w.alloc zeroC).alloc (.cells (([a,b,c,d,e]:List Tx).map str).toArray 9)).cell? ⟨w.heap.size,1,none⟩=some (str []):=by simp [go_sem]
  have e2:((w.alloc zeroC).alloc (.cells (([a,b,c,d,e]:List Tx).map str).toArray 9)).cell? ⟨w.heap.size,2,none⟩=some (str []):=by simp [go_sem]
  have e3:((w.alloc zeroC).alloc (.cells (([a,b,c,d,e]:List Tx).map str).toArray 9)).cell? ⟨w.heap.size,3,none⟩=some (.int .i64 0):=by simp [go_sem]
  have e4:((w.alloc zeroC).alloc (.cells (([a,b,c,d,e]:List Tx).map str).toArray 9)).cell? ⟨w.heap.size,4,none⟩=some (.int .i64 0):=by simp [go_sem]
  clear f5 HL
  go_enter Tryz.func166,Tryz.ntmps166
  go_wp2_with fail
  refine Calls.mono S.out ?_
  rintro e' w' ⟨rfl,rfl⟩
  rw [hzz]
  simp only [List.length_cons,List.length_nil,Nat.zero_add]
  clear S
  generalize ((w.alloc zeroC).alloc (.cells (([a,b,c,d,e]:List Tx).map str).toArray 9))=W at *
  by_cases ha:a=[76,49]
  ·subst ha
   simp only [if_true] at HH
   have N:Hid (_):=fun w G=>numRead_any c 0 1000000000000 (by omega) w G (by omega)
   go_wp2_with fail
   refine Calls.mono (N.out W (G.call b1)) ?_
   cases hn:numP c 0 1000000000000 with
   | none =>
    rintro e' w1 ⟨rfl,hb1⟩
    dsimp only [nmEnd]
    rw [hn] at HH
    have hs1:=hb1.size
    replace q1:=(hb1.cell (p:=⟨w.heap.size+1,1,none⟩) (show w.heap.size+1 < W.heap.size by omega)).trans q1
    replace q3:=(hb1.cell (p:=⟨w.heap.size+1,3,none⟩) (show w.heap.size+1 < W.heap.size by omega)).trans q3
    replace q4:=(hb1.cell (p:=⟨w.heap.size+1,4,none⟩) (show w.heap.size+1 < W.heap.size by omega)).trans q4
    replace e0:=(hb1.cell (p:=⟨w.heap.size,0,none⟩) (show w.heap.size < W.heap.size by omega)).trans e0
    replace e1:=(hb1.cell (p:=⟨w.heap.size,1,none⟩) (show w.heap.size < W.heap.size by omega)).trans e1
    replace e2:=(hb1.cell (p:=⟨w.heap.size,2,none⟩) (show w.heap.size < W.heap.size by omega)).trans e2
    replace e3:=(hb1.cell (p:=⟨w.heap.size,3,none⟩) (show w.heap.size < W.heap.size by omega)).trans e3
    replace e4:=(hb1.cell (p:=⟨w.heap.size,4,none⟩) (show w.heap.size < W.heap.size by omega)).trans e4
    replace g0:∀ j:Nat,w1.frozen? ⟨w.heap.size,j,none⟩=false:=fun j=>(hb1.frozen (p:=⟨w.heap.size,j,none⟩) (show w.heap.size < W.heap.size by omega)).trans (g0 j)
    replace b1:=below_trans b1 hb1
    have lw:w.heap.size < w1.heap.size:=by omega
    have qa1:=fun o=>cell_alloc q1 o
    have qa3:=fun o=>cell_alloc q3 o
    have qa4:=fun o=>cell_alloc q4 o
    have ea0:=fun o=>cell_alloc e0 o
    have ea1:=fun o=>cell_alloc e1 o
    have ea2:=fun o=>cell_alloc e2 o
    have ea3:=fun o=>cell_alloc e3 o
    have ea4:=fun o=>cell_alloc e4 o
    have ga:=fun o j=>R.frozen_alloc lw g0 o j
    clear q0 q2 z1 hb1 N
    go_wp2_with fail
    go_region
    all_goals go_wp2
    all_goals (refine bodyPost_ret (v:=.tuple #[.agg #[str b,str d,str e,.int .i64 0,.int .i64 900],.bool false]) ?_ rfl ?_)
    all_goals first|(simp [results,Tryz.results166,go_sem,e0,e1,e2,e3,e4,World.cell?_alloc_past,lw];done)|skip
    all_goals (refine clPost_no HH.out ?_ _ _ _ _ _;exact ((R.below_set5 b1 (Nat.le_refl _) _ _ _ _ _).alloc (by simp;omega) _).drew)
   | some n =>
    rintro e' w1 ⟨rfl,hb1⟩
    dsimp only [nmEnd]
    rw [hn] at HH
    have hs1:=hb1.size
    replace q1:=(hb1.cell (p:=⟨w.heap.size+1,1,none⟩) (show w.heap.size+1 < W.heap.size by omega)).trans q1
    replace q3:=(hb1.cell (p:=⟨w.heap.size+1,3,none⟩) (show w.heap.size+1 < W.heap.size by omega)).trans q3
    replace q4:=(hb1.cell (p:=⟨w.heap.size+1,4,none⟩) (show w.heap.size+1 < W.heap.size by omega)).trans q4
    replace e0:=(hb1.cell (p:=⟨w.heap.size,0,none⟩) (show w.heap.size < W.heap.size by omega)).trans e0
    replace e1:=(hb1.cell (p:=⟨w.heap.size,1,none⟩) (show w.heap.size < W.heap.size by omega)).trans e1
    replace e2:=(hb1.cell (p:=⟨w.heap.size,2,none⟩) (show w.heap.size < W.heap.size by omega)).trans e2
    replace e3:=(hb1.cell (p:=⟨w.heap.size,3,none⟩) (show w.heap.size < W.heap.size by omega)).trans e3
    replace e4:=(hb1.cell (p:=⟨w.heap.size,4,none⟩) (show w.heap.size < W.heap.size by omega)).trans e4
    replace g0:∀ j:Nat,w1.frozen? ⟨w.heap.size,j,none⟩=false:=fun j=>(hb1.frozen (p:=⟨w.heap.size,j,none⟩) (show w.heap.size < W.heap.size by omega)).trans (g0 j)
    replace b1:=below_trans b1 hb1
    have lw:w.heap.size < w1.heap.size:=by omega
    have qa1:=fun o=>cell_alloc q1 o
    have qa3:=fun o=>cell_alloc q3 o
    have qa4:=fun o=>cell_alloc q4 o
    have ea0:=fun o=>cell_alloc e0 o
    have ea1:=fun o=>cell_alloc e1 o
    have ea2:=fun o=>cell_alloc e2 o
    have ea3:=fun o=>cell_alloc e3 o
    have ea4:=fun o=>cell_alloc e4 o
    have ga:=fun o j=>R.frozen_alloc lw g0 o j
    clear q0 q2 z1 hb1 N
    have hn2:n≤1000000000000:=(numP_le hn).1
    go_wp2_with fail
    go_region
    all_goals go_wp2
    all_goals (refine bodyPost_ret (v:=.tuple #[.agg #[str b,str d,str e,.int .i64 (n:Int),.int .i64 ((n+900:Nat):Int)],.bool true]) ?_ rfl ?_)
    all_goals first|(simp [results,Tryz.results166,go_sem,e0,e1,e2,e3,e4,World.cell?_alloc_past,lw];done)|skip
    all_goals (refine clPost_ok (c:=⟨b,d,e,n,n+900⟩) HH.out ?_;exact ((R.below_set5 b1 (Nat.le_refl _) _ _ _ _ _).alloc (by simp;omega) _).drew)
  ·rw [if_neg ha] at HH
   have ha2:(a == [76,49])=false:=by simpa using ha
   go_wp2
   refine bodyPost_ret (v:=.tuple #[.agg #[str [],str [],str [],.int .i64 0,.int .i64 0],.bool false]) ?_ rfl ?_
   ·simp [results,Tryz.results166,go_sem,e0,e1,e2,e3,e4]
   ·exact clPost_no HH.out (R.below_set5 b1 (Nat.le_refl _) _ _ _ _ _) _ _ _ _ _
 ·have HX:Hid (headP v=none):=by
   show _=_;rw [HH.out]
   match l,h5 with
   | [],_=>rfl
   | [_],_=>rfl
   | [_,_],_=>rfl
   | [_,_,_],_=>rfl
   | [_,_,_,_],_=>rfl
   | [_,_,_,_,_],h=>exact absurd rfl h
   | _ :: _ :: _ :: _ :: _ :: _ :: _,_=>rfl
  have t5:((l.length:Int) != 5)=true:=by simp;omega
  have b1:Below w.heap.size w ((w.alloc zeroC).alloc (.cells (l.map str).toArray 9)):=b0.alloc (by simp) _
  clear HH HL
  go_enter Tryz.func166,Tryz.ntmps166
  go_wp2_with fail
  refine Calls.mono S.out ?_
  rintro e' w' ⟨rfl,rfl⟩
  clear S
  go_wp2
  refine bodyPost_ret (v:=.tuple #[.agg #[str [],str [],str [],.int .i64 0,.int .i64 0],.bool false]) ?_ rfl ?_
  ·simp [results,Tryz.results166,go_sem]
  ·exact clPost_no HX.out (by simpa using b1) _ _ _ _ _
def xP (n:Tx):Bool:=([120,45]:Tx).isPrefixOf n
abbrev xIn (q:Hs):Hs:=q.filter (fun p=>xP p.1)
abbrev xOut (q:Hs):Hs:=q.filter (fun p=>!xP p.1)
theorem filter_take {f:Tx×Tx→Bool} {q:Hs} {k:Nat} (h:k < q.length):(q.take (k+1)).filter f=if f q[k]=true then (q.take k).filter f++[q[k]] else (q.take k).filter f:=by
 rw [List.take_succ_eq_append_getElem h,List.filter_append]
 by_cases hf:f q[k]=true
 ·rw [if_pos hf];simp [hf]
 ·rw [if_neg hf];simp [hf]
theorem papp_new {W:World} {ops:Array Oper} {rest:List Oper} {o:Oper} {a:Act} {Q:Exit→Act→World→Prop} (hgd:o.guard=none) (s x:Operand)
  (ho:o.op=.call { callee:=.builtin .append,args:=#[s,x],argTypes:=#[76,76] })
  (B:Nat) (l:Hs) (p q:Tx) (v:Value) (hs:a.eval s=v) (hown:R.prow W B v l) (H:Nat) (hx:a.eval x=.slice (some ⟨H,0,none⟩) 1 1) (hH:W.heap.size=H) (hlen:l.length≤1000000000) (hB:B≤W.heap.size)
  (h:∀ v' w',R.prow w' B v' (l++[(p,q)])→Below B (W.alloc (.cells #[str p,str q] 109)) w'→wpList Tryz.prog ops Q rest (a.put o.dst v') w'):wpList Tryz.prog ops Q (o :: rest) a (W.alloc (.cells #[str p,str q] 109)):=by
 subst hH
 exact R.papp_law hgd s x ho B l (p,q) v hs (R.prow.alloc hown _) _ hx (0,0) (heap_alloc_new _ _) hlen (by simp;omega) h
theorem pairsClaim_any (v:Value) (q:Hs) (w:World) (h:R.phold w w.heap.size v q) (hl:q.length≤1000000) :
  Calls Tryz.prog 165 #[v] w fun e w'=>∃ v',e=.returned v'∧R.prow w' w.heap.size v' (xIn q)∧Below w.heap.size w w':=by
 obtain ⟨a,c,rfl⟩:=R.phold.len h
 have HH:Hid (R.phold w w.heap.size (.slice a q.length c) q):=h
 have HP:Hid (∀ (l p:Tx) (w:World),Calls Tryz.prog 144 #[str l,str p] w fun e w'=>e=.returned (.bool (p.isPrefixOf l))∧w=w'):=R.pre_r
 clear h
 go_enter Tryz.func165,Tryz.ntmps165
 go_wp2
 go_loopw [3,8] (fun v i wr=>∃ k:Nat,k≤q.length∧i=.int .i64 k∧R.prow wr w.heap.size v (xIn (q.take k))∧Below w.heap.size w wr) (fun _ i _=>q.length - (intOf i).toNat)
 case atStart=>exact ⟨0,Nat.zero_le _,rfl,R.prow_nil _ _,Below.refl _ _⟩
 case round =>
  obtain ⟨k,hk,rfl,hr,hb⟩:=hrel
  have hsz:=hb.size
  by_cases hlt:k < q.length
  ·obtain ⟨g,rfl,hg,c0,c1⟩:=R.phold.at HH.out hlt
   have HT:Hid (xIn (q.take (k+1))=if (xP q[k].1)=true then xIn (q.take k)++[q[k]] else xIn (q.take k)):=filter_take hlt
   have ll:(xIn (q.take k)).length≤1000000:=Nat.le_trans (List.length_filter_le _ _) (by simp;omega)
   replace c0:=(hb.cell (p:=⟨g,k*2,none⟩) hg).trans c0
   replace c1:=(hb.cell (p:=⟨g,k*2+1,none⟩) hg).trans c1
   generalize xIn (q.take k)=zz at *
   obtain ⟨x,z,hxz⟩:∃ x z,q[k]=(x,z):=⟨_,_,rfl⟩
   rw [hxz] at c0 c1 HT
   clear hxz
   have P1:Hid (_):=HP.out x [120,45]
   cases hx:xP x with
   | true =>
    have HT2:Hid (xIn (q.take (k+1))=zz++[(x,z)]):=by show _=_;rw [HT.out,hx];rfl
    have hx2:([120,45]:Tx).isPrefixOf x=true:=hx
    rw [hx2] at P1
    have hr1:=R.prow.alloc hr (.cells #[str x,str z] 109)
    have hb1:Below w.heap.size w (wr.alloc (.cells #[str x,str z] 109)):=hb.alloc hsz _
    have z1:(wr.alloc (.cells #[str x,str z] 109)).heap.size=wr.heap.size+1:=by simp
    clear HT hr
    obtain ⟨va,vn,vc,rfl⟩:∃ a n c,u3=.slice a n c:=by obtain ⟨_,a,c,e⟩:=R.prow.len hr1;exact ⟨a,_,c,e⟩
    go_wp2_with (first|(go_at_call 144;refine (P1.out _).mono ?_;rintro e w1 ⟨rfl,rfl⟩)|(at_builtin;refine papp_new rfl _ _ rfl w.heap.size zz x z (.slice va vn vc) rfl hr1 (wr.heap.size+1) rfl z1 (by omega) (by simp;omega) ?_;intro v' w2 hr3 hb3))
    go_roundw
    case rel=>exact ⟨k+1,by omega,by go_num,by rw [HT2.out];exact hr3,(hb1.alloc (by simp;omega) _).trans hb3⟩
    case measure=>simp [intOf];omega
   | false =>
    have HT2:Hid (xIn (q.take (k+1))=zz):=by show _=_;rw [HT.out,hx];rfl
    have hx2:([120,45]:Tx).isPrefixOf x=false:=hx
    rw [hx2] at P1
    have hr1:=R.prow.alloc hr (.cells #[str x,str z] 109)
    have hb1:Below w.heap.size w (wr.alloc (.cells #[str x,str z] 109)):=hb.alloc hsz _
    clear HT hr
    go_wp2_with (go_at_call 144;refine (P1.out _).mono ?_;rintro e w1 ⟨rfl,rfl⟩)
    go_roundw
    case rel=>exact ⟨k+1,by omega,by go_num,by rw [HT2.out];exact hr1,hb1⟩
    case measure=>simp [intOf];omega
  ·obtain rfl:k=q.length:=by omega
   rw [List.take_length] at hr
   obtain ⟨va,vn,vc,rfl⟩:∃ a n c,u3=.slice a n c:=by obtain ⟨_,a,c,e⟩:=R.prow.len hr;exact ⟨a,_,c,e⟩
   go_wp2
   go_ret
   exact ⟨_,rfl,hr,hb⟩
theorem pairsAsk_any (v:Value) (q:Hs) (w:World) (h:R.phold w w.heap.size v q) (hl:q.length≤1000000) :
  Calls Tryz.prog 120 #[v] w fun e w'=>∃ v',e=.returned v'∧R.prow w' w.heap.size v' (xOut q)∧Below w.heap.size w w':=by
 obtain ⟨a,c,rfl⟩:=R.phold.len h
 have HH:Hid (R.phold w w.heap.size (.slice a q.length c) q):=h
 have HP:Hid (∀ (l p:Tx) (w:World),Calls Tryz.prog 144 #[str l,str p] w fun e w'=>e=.returned (.bool (p.isPrefixOf l))∧w=w'):=R.pre_r
 clear h
 go_enter Tryz.func120,Tryz.ntmps120
 go_wp2
 go_loopw [3,8] (fun v i wr=>∃ k:Nat,k≤q.length∧i=.int .i64 k∧R.prow wr w.heap.size v (xOut (q.take k))∧Below w.heap.size w wr) (fun _ i _=>q.length - (intOf i).toNat)
 case atStart=>exact ⟨0,Nat.zero_le _,rfl,R.prow_nil _ _,Below.refl _ _⟩
 case round =>
  obtain ⟨k,hk,rfl,hr,hb⟩:=hrel
  have hsz:=hb.size
  by_cases hlt:k < q.length
  ·obtain ⟨g,rfl,hg,c0,c1⟩:=R.phold.at HH.out hlt
   have HT:Hid (xOut (q.take (k+1))=if (!xP q[k].1)=true then xOut (q.take k)++[q[k]] else xOut (q.take k)):=filter_take hlt
   have ll:(xOut (q.take k)).length≤1000000:=Nat.le_trans (List.length_filter_le _ _) (by simp;omega)
   replace c0:=(hb.cell (p:=⟨g,k*2,none⟩) hg).trans c0
   replace c1:=(hb.cell (p:=⟨g,k*2+1,none⟩) hg).trans c1
   generalize xOut (q.take k)=zz at *
   obtain ⟨x,z,hxz⟩:∃ x z,q[k]=(x,z):=⟨_,_,rfl⟩
   rw [hxz] at c0 c1 HT
   clear hxz
   have P1:Hid (_):=HP.out x [120,45]
   cases hx:xP x with
   | false =>
    have HT2:Hid (xOut (q.take (k+1))=zz++[(x,z)]):=by show _=_;rw [HT.out,hx];rfl
    have hx2:([120,45]:Tx).isPrefixOf x=false:=hx
    rw [hx2] at P1
    have hr1:=R.prow.alloc hr (.cells #[str x,str z] 109)
    have hb1:Below w.heap.size w (wr.alloc (.cells #[str x,str z] 109)):=hb.alloc hsz _
    have z1:(wr.alloc (.cells #[str x,str z] 109)).heap.size=wr.heap.size+1:=by simp
    clear HT hr
    obtain ⟨va,vn,vc,rfl⟩:∃ a n c,u3=.slice a n c:=by obtain ⟨_,a,c,e⟩:=R.prow.len hr1;exact ⟨a,_,c,e⟩
    go_wp2_with (first|(go_at_call 144;refine (P1.out _).mono ?_;rintro e w1 ⟨rfl,rfl⟩)|(at_builtin;refine papp_new rfl _ _ rfl w.heap.size zz x z (.slice va vn vc) rfl hr1 (wr.heap.size+1) rfl z1 (by omega) (by simp;omega) ?_;intro v' w2 hr3 hb3))
    go_roundw
    case rel=>exact ⟨k+1,by omega,by go_num,by rw [HT2.out];exact hr3,(hb1.alloc (by simp;omega) _).trans hb3⟩
    case measure=>simp [intOf];omega
   | true =>
    have HT2:Hid (xOut (q.take (k+1))=zz):=by show _=_;rw [HT.out,hx];rfl
    have hx2:([120,45]:Tx).isPrefixOf x=true:=hx
    rw [hx2] at P1
    have hr1:=R.prow.alloc hr (.cells #[str x,str z] 109)
    have hb1:Below w.heap.size w (wr.alloc (.cells #[str x,str z] 109)):=hb.alloc hsz _
    clear HT hr
    go_wp2_with (go_at_call 144;refine (P1.out _).mono ?_;rintro e w1 ⟨rfl,rfl⟩)
    go_roundw
    case rel=>exact ⟨k+1,by omega,by go_num,by rw [HT2.out];exact hr1,hb1⟩
    case measure=>simp [intOf];omega
  ·obtain rfl:k=q.length:=by omega
   rw [List.take_length] at hr
   obtain ⟨va,vn,vc,rfl⟩:∃ a n c,u3=.slice a n c:=by obtain ⟨_,a,c,e⟩:=R.prow.len hr;exact ⟨a,_,c,e⟩
   go_wp2
   go_ret
   exact ⟨_,rfl,hr,hb⟩
abbrev xUser:Tx:=[120,45,117,115,101,114]
abbrev xTime:Tx:=[120,45,116,105,109,101]
abbrev xFor:Tx:=[120,45,102,111,114]
abbrev xList:Tx:=[120,45,108,105,115,116]
abbrev xSig:Tx:=[120,45,115,105,103]
abbrev tAuth:Tx:=[97,117,116,104]
def fnumP (ps:Hs) (n:Tx) (lo hi:Nat):Option Nat:=numP ((R.findP ps n).getD []) lo hi
def pairsP (ps:Hs):Option Claim:=match R.findP ps xUser,fnumP ps xTime 0 1000000000000,fnumP ps xFor 1 604800,R.findP ps xList,R.findP ps xSig with
 | some u,some t,some f,some l,some s=>if ps.length=5 then some ⟨u,l,s,t,t+f - 1⟩ else none
 | _,_,_,_,_=>none
def claimP (q hs:Hs):Option Claim:=match R.findP hs tAuth with
 | some v=>if (xIn q).length=0 then headP v else none
 | none=>pairsP (xIn q)
def optT (o:Option Tx):Tx:=o.getD []
theorem find_all (v:Value) (l:Hs) (n:Tx) (w:World) (h:R.phold w w.heap.size v l) (hl:l.length≤1000000) :
  Calls Tryz.prog 100 #[v,str n] w fun e w'=>e=.returned (.tuple #[str (optT (R.findP l n)),.bool (R.findP l n).isSome])∧Below w.heap.size w w':=by
 refine (R.find_any v l n _ w h (Nat.le_refl _) (by omega)).mono ?_
 rintro e w' ⟨rfl,hb⟩
 cases R.findP l n <;> exact ⟨rfl,hb⟩
def optN (o:Option Nat):Nat:=o.getD 0
theorem num_all (t:Tx) (lo hi:Nat) (hhi:hi≤1000000000000) (w:World) (G:GL w) (hl:t.length≤281474976710656) :
  Calls Tryz.prog 213 #[str t,.int .i64 (lo:Int),.int .i64 (hi:Int)] w fun e w'=>e=.returned (.tuple #[.int .i64 (optN (numP t lo hi):Int),.bool (numP t lo hi).isSome])∧Below w.heap.size w w':=by
 refine (numRead_any t lo hi hhi w G hl).mono ?_
 rintro e w' ⟨rfl,hb⟩
 cases numP t lo hi <;> exact ⟨rfl,hb⟩
theorem find_len {l:Hs} {n:Tx} (h:∀ p∈l,p.1.length≤1000000∧p.2.length≤1000000):(optT (R.findP l n)).length≤1000000:=by
 cases hf:R.findP l n with
 | none=>simp [optT]
 | some v=>exact (h (n,v) (R.find_in hf)).2
theorem findNum_any (v:Value) (l:Hs) (n:Tx) (lo hi:Nat) (hhi:hi≤1000000000000) (w:World) (G:GL w) (h:R.phold w w.heap.size v l) (hl:l.length≤1000000) (hb:∀ p∈l,p.1.length≤1000000∧p.2.length≤1000000) :
  Calls Tryz.prog 214 #[v,str n,.int .i64 (lo:Int),.int .i64 (hi:Int)] w fun e w'=>e=.returned (.tuple #[.int .i64 (optN (fnumP l n lo hi):Int),.bool (fnumP l n lo hi).isSome])∧Below w.heap.size w w':=by
 have F:Hid (_):=fun w h=>find_all v l n w h (by omega)
 have hlen:=find_len (n:=n) hb
 have HF:Hid (fnumP l n lo hi=numP (optT (R.findP l n)) lo hi):=rfl
 have N:Hid (_):=fun w G=>num_all (optT (R.findP l n)) lo hi hhi w G (by omega)
 rw [HF.out]
 generalize numP (optT (R.findP l n)) lo hi=o at *
 generalize optT (R.findP l n)=t at *
 generalize (R.findP l n).isSome=s at *
 go_enter Tryz.func214,Tryz.ntmps214
 go_wp2_with fail
 refine Calls.mono (F.out w h) ?_
 rintro e w1 ⟨rfl,b1⟩
 go_wp2_with fail
 refine Calls.mono (N.out w1 (G.call b1)) ?_
 rintro e w2 ⟨rfl,b2⟩
 go_wp2
 go_ret2
 exact ⟨rfl,below_trans b1 b2⟩
theorem optN_le {t:Tx} {lo hi:Nat}:optN (numP t lo hi)≤hi:=by
 cases h:numP t lo hi with
 | none=>simp [optN]
 | some n=>exact (numP_le h).1
theorem rPairs_core (v:Value) (ps:Hs) (t1 t4 t5:Tx) (n2 n3:Nat) (s1 s2 s3 s4 s5:Bool) (h2:n2≤1000000000000) (h3:n3≤1000000000000) (w:World) (G:GL w) (h:R.phold w w.heap.size v ps) (_hl:ps.length≤1000000)
  (F1:Hid (∀ w,R.phold w w.heap.size v ps→Calls Tryz.prog 100 #[v,str xUser] w fun e w'=>e=.returned (.tuple #[str t1,.bool s1])∧Below w.heap.size w w'))
  (F2:Hid (∀ w,GL w→R.phold w w.heap.size v ps→Calls Tryz.prog 214 #[v,str xTime,.int .i64 0,.int .i64 1000000000000] w fun e w'=>e=.returned (.tuple #[.int .i64 (n2:Int),.bool s2])∧Below w.heap.size w w'))
  (F3:Hid (∀ w,GL w→R.phold w w.heap.size v ps→Calls Tryz.prog 214 #[v,str xFor,.int .i64 1,.int .i64 604800] w fun e w'=>e=.returned (.tuple #[.int .i64 (n3:Int),.bool s3])∧Below w.heap.size w w'))
  (F4:Hid (∀ w,R.phold w w.heap.size v ps→Calls Tryz.prog 100 #[v,str xList] w fun e w'=>e=.returned (.tuple #[str t4,.bool s4])∧Below w.heap.size w w'))
  (F5:Hid (∀ w,R.phold w w.heap.size v ps→Calls Tryz.prog 100 #[v,str xSig] w fun e w'=>e=.returned (.tuple #[str t5,.bool s5])∧Below w.heap.size w w')) :
  Calls Tryz.prog 167 #[v] w fun e w'=>e=.returned (.tuple #[.agg #[str t1,str t4,str t5,.int .i64 (n2:Int),.int .i64 ((n2:Int)+(n3:Int) - 1)],.bool (s1 && s2 && s3 && s4 && s5 && decide (ps.length=5))])∧Below w.heap.size w w':=by
 obtain ⟨a,c,rfl⟩:=R.phold.len h
 have b0:Below w.heap.size w (w.alloc zeroC):=(Below.refl _ _).alloc (Nat.le_refl _) _
 have H0:=R.phold.call h b0
 have G0:=G.call b0
 go_enter Tryz.func167,Tryz.ntmps167
 go_wp2_with fail
 refine Calls.mono (F1.out _ H0) ?_
 rintro e w1 ⟨rfl,b1⟩
 have H1:=R.phold.call H0 b1
 have G1:=G0.call b1
 go_wp2_with fail
 refine Calls.mono (F2.out _ G1 H1) ?_
 rintro e w2 ⟨rfl,b2⟩
 have H2:=R.phold.call H1 b2
 have G2:=G1.call b2
 go_wp2_with fail
 refine Calls.mono (F3.out _ G2 H2) ?_
 rintro e w3 ⟨rfl,b3⟩
 have H3:=R.phold.call H2 b3
 have G3:=G2.call b3
 go_wp2_with fail
 refine Calls.mono (F4.out _ H3) ?_
 rintro e w4 ⟨rfl,b4⟩
 have H4:=R.phold.call H3 b4
 go_wp2_with fail
 refine Calls.mono (F5.out _ H4) ?_
 rintro e w5 ⟨rfl,b5⟩
 have B4:Below (w.alloc zeroC).heap.size (w.alloc zeroC) w5:=below_trans (below_trans (below_trans (below_trans b1 b2) b3) b4) b5
 have B5:=below_trans b0 B4
 have hz:w.heap.size < (w.alloc zeroC).heap.size:=by simp
 have lw:w.heap.size < w5.heap.size:=Nat.lt_of_lt_of_le hz B4.size
 have e0:w5.cell? ⟨w.heap.size,0,none⟩=some (str []):=(B4.cell (p:=⟨w.heap.size,0,none⟩) hz).trans (by simp [go_sem])
 have e1:w5.cell? ⟨w.heap.size,1,none⟩=some (str []):=(B4.cell (p:=⟨w.heap.size,1,none⟩) hz).trans (by simp [go_sem])
 have e2:w5.cell? ⟨w.heap.size,2,none⟩=some (str []):=(B4.cell (p:=⟨w.heap.size,2,none⟩) hz).trans (by simp [go_sem])
 have e3:w5.cell? ⟨w.heap.size,3,none⟩=some (.int .i64 0):=(B4.cell (p:=⟨w.heap.size,3,none⟩) hz).trans (by simp [go_sem])
 have e4:w5.cell? ⟨w.heap.size,4,none⟩=some (.int .i64 0):=(B4.cell (p:=⟨w.heap.size,4,none⟩) hz).trans (by simp [go_sem])
 have g0:∀ j:Nat,w5.frozen? ⟨w.heap.size,j,none⟩=false:=fun j=>(B4.frozen (p:=⟨w.heap.size,j,none⟩) hz).trans (by simp [go_sem])
 have ea0:=fun o=>cell_alloc e0 o
 have ea1:=fun o=>cell_alloc e1 o
 have ea2:=fun o=>cell_alloc e2 o
 have ea3:=fun o=>cell_alloc e3 o
 have ea4:=fun o=>cell_alloc e4 o
 have ga:=fun o j=>R.frozen_alloc lw g0 o j
 clear F1 F2 F3 F4 F5 b1 b2 b3 b4 b5 H0 H1 H2 H3 H4 G0 G1 G2 G3 h B4 b0
 cases s1 with
 | false =>
  go_wp2
  refine bodyPost_ret (v:=.tuple #[.agg #[str t1,str t4,str t5,.int .i64 (n2:Int),.int .i64 ((n2:Int)+(n3:Int) - 1)],.bool false]) ?_ rfl ?_
  ·simp [results,Tryz.results167,go_sem,e0,e1,e2,e3,e4,lw]
  ·exact ⟨by cases s2 <;> cases s3 <;> cases s4 <;> cases s5 <;> rfl,((R.below_set5 B5 (Nat.le_refl _) _ _ _ _ _).alloc (by simp;omega) _)⟩
 | true =>
  cases s2 with
  | false =>
   go_wp2
   refine bodyPost_ret (v:=.tuple #[.agg #[str t1,str t4,str t5,.int .i64 (n2:Int),.int .i64 ((n2:Int)+(n3:Int) - 1)],.bool false]) ?_ rfl ?_
   ·simp [results,Tryz.results167,go_sem,e0,e1,e2,e3,e4,lw]
   ·exact ⟨by cases s3 <;> cases s4 <;> cases s5 <;> rfl,((R.below_set5 B5 (Nat.le_refl _) _ _ _ _ _).alloc (by simp;omega) _)⟩
  | true =>
   cases s3 with
   | false =>
    go_wp2
    refine bodyPost_ret (v:=.tuple #[.agg #[str t1,str t4,str t5,.int .i64 (n2:Int),.int .i64 ((n2:Int)+(n3:Int) - 1)],.bool false]) ?_ rfl ?_
    ·simp [results,Tryz.results167,go_sem,e0,e1,e2,e3,e4,lw]
    ·exact ⟨by cases s4 <;> cases s5 <;> rfl,((R.below_set5 B5 (Nat.le_refl _) _ _ _ _ _).alloc (by simp;omega) _)⟩
   | true =>
    cases s4 with
    | false =>
     go_wp2
     refine bodyPost_ret (v:=.tuple #[.agg #[str t1,str t4,str t5,.int .i64 (n2:Int),.int .i64 ((n2:Int)+(n3:Int) - 1)],.bool false]) ?_ rfl ?_
     ·simp [results,Tryz.results167,go_sem,e0,e1,e2,e3,e4,lw]
     ·exact ⟨by cases s5 <;> rfl,((R.below_set5 B5 (Nat.le_refl _) _ _ _ _ _).alloc (by simp;omega) _)⟩
    | true =>
     cases s5 with
     | false =>
      go_wp2
      refine bodyPost_ret (v:=.tuple #[.agg #[str t1,str t4,str t5,.int .i64 (n2:Int),.int .i64 ((n2:Int)+(n3:Int) - 1)],.bool false]) ?_ rfl ?_
      ·simp [results,Tryz.results167,go_sem,e0,e1,e2,e3,e4,lw]
      ·exact ⟨rfl,((R.below_set5 B5 (Nat.le_refl _) _ _ _ _ _).alloc (by simp;omega) _)⟩
     | true =>
      by_cases h5:ps.length=5
      ·have t5':((ps.length:Int) == 5)=true:=by simp;omega
       go_wp2
       refine bodyPost_ret (v:=.tuple #[.agg #[str t1,str t4,str t5,.int .i64 (n2:Int),.int .i64 ((n2:Int)+(n3:Int) - 1)],.bool true]) ?_ rfl ?_
       ·simp [results,Tryz.results167,go_sem,e0,e1,e2,e3,e4,lw]
       ·exact ⟨by simp [h5],((R.below_set5 B5 (Nat.le_refl _) _ _ _ _ _).alloc (by simp;omega) _)⟩
      ·have t5':((ps.length:Int) == 5)=false:=by simp;omega
       go_wp2
       refine bodyPost_ret (v:=.tuple #[.agg #[str t1,str t4,str t5,.int .i64 (n2:Int),.int .i64 ((n2:Int)+(n3:Int) - 1)],.bool false]) ?_ rfl ?_
       ·simp [results,Tryz.results167,go_sem,e0,e1,e2,e3,e4,lw]
       ·exact ⟨by simp [h5],((R.below_set5 B5 (Nat.le_refl _) _ _ _ _ _).alloc (by simp;omega) _)⟩
abbrev Us:=List (List UInt8×List UInt8)
def userP (u:List UInt8×List UInt8):Bool:=nameP u.1 && decide (1≤u.2.length) && decide (u.2.length≤40)
structure UR (a:Option Addr) (us:Us) (w:World):Prop where
 at_:∀ k (h:k < us.length),∃ b o,a=some ⟨b,o,none⟩∧b < w.heap.size∧w.cell? ⟨b,o+k*2,none⟩=some (str us[k].1)∧w.cell? ⟨b,o+k*2+1,none⟩=some (str us[k].2)
theorem UR.below {a:Option Addr} {us:Us} {w w':World} (h:UR a us w) (k:Below w.heap.size w w'):UR a us w' :=
 ⟨fun i hi=>by
  obtain ⟨b,o,e,hb,c0,c1⟩:=h.at_ i hi
  have:=k.size
  exact ⟨b,o,e,by omega,(k.cell (p:=⟨b,o+i*2,none⟩) hb).trans c0,(k.cell (p:=⟨b,o+i*2+1,none⟩) hb).trans c1⟩⟩
theorem isUser2_any (u:List UInt8×List UInt8) (h1:u.1.length≤1000000) (_h2:u.2.length≤281474976710656) (w:World) :
  Calls Tryz.prog 90 #[.agg #[str u.1,str u.2]] w fun e w'=>e=.returned (.bool (userP u))∧Below w.heap.size w w':=by
 obtain ⟨n,s⟩:=u
 have U:Hid (_):=fun w=>isUser_any n w h1
 have b0:Below w.heap.size w (w.alloc (.cells #[str n,str s] 29)):=(Below.refl _ _).alloc (Nat.le_refl _) _
 have HU:Hid (userP (n,s)=(nameP n && decide (1≤s.length) && decide (s.length≤40))):=rfl
 cases hn:nameP n with
 | false =>
  have HR:Hid (userP (n,s)=false):=by show _=_;rw [HU.out,hn];rfl
  rw [hn] at U
  go_enter Tryz.func90,Tryz.ntmps90
  go_wp2_with (go_at_call 134;refine (U.out _).mono ?_;rintro e w' ⟨rfl,rfl⟩)
  go_ret
  exact ⟨ret_bool HR.out.symm,b0⟩
 | true =>
  rw [hn] at U
  by_cases hs:1≤s.length
  ·have p1:decide (1≤(s.length:Int))=true:=by simp;omega
   have HR:Hid (userP (n,s)=decide (s.length≤40)):=by show _=_;rw [HU.out,hn,decide_eq_true hs];rfl
   go_enter Tryz.func90,Tryz.ntmps90
   go_wp2_with (go_at_call 134;refine (U.out _).mono ?_;rintro e w' ⟨rfl,rfl⟩)
   go_ret
   refine ⟨ret_bool ?_,b0⟩
   rw [HR.out,decide_eq_decide];omega
  ·have p1:decide (1≤(s.length:Int))=false:=by simp;omega
   have HR:Hid (userP (n,s)=false):=by show _=_;rw [HU.out,hn,decide_eq_false hs];rfl
   go_enter Tryz.func90,Tryz.ntmps90
   go_wp2_with (go_at_call 134;refine (U.out _).mono ?_;rintro e w' ⟨rfl,rfl⟩)
   go_ret
   exact ⟨ret_bool HR.out.symm,b0⟩
theorem any_take {f:List UInt8×List UInt8→Bool} {l:Us} {k:Nat} (h:k < l.length):(l.take (k+1)).any f=((l.take k).any f || f l[k]):=by
 have e:l.take (k+1)=l.take k++[l[k]]:=by rw [List.take_add_one,List.getElem?_eq_getElem h];rfl
 rw [e,List.any_append];simp only [List.any_cons,List.any_nil,Bool.or_false]
theorem hasName_any (a:Option Addr) (cap:Nat) (us:Us) (n:List UInt8) (hl:us.length≤1000000) (w:World) (h:UR a us w) :
  Calls Tryz.prog 91 #[.slice a us.length cap,str n] w fun e w'=>e=.returned (.bool (us.any (fun u=>u.1 == n)))∧Below w.heap.size w w':=by
 have HU:Hid (UR a us w):=h
 clear h
 go_enter Tryz.func91,Tryz.ntmps91
 go_wp2
 go_loopw [9] (fun i wr=>∃ k:Nat,k≤us.length∧i=.int .i64 k∧(us.take k).any (fun u=>u.1 == n)=false∧Below w.heap.size w wr) (fun i _=>us.length - (intOf i).toNat)
 case atStart=>exact ⟨0,Nat.zero_le _,rfl,rfl,Below.refl _ _⟩
 case round =>
  obtain ⟨k,hk,rfl,hno,hb⟩:=hrel
  have HN:Hid ((us.take k).any (fun u=>u.1 == n)=false):=hno
  clear hno
  by_cases hlt:k < us.length
  ·obtain ⟨b,o,rfl,hbb,c0,c1⟩:=(HU.out.below hb).at_ k hlt
   obtain ⟨x,y,hxy⟩:∃ x y,us[k]=(x,y):=⟨_,_,rfl⟩
   rw [hxy] at c0 c1
   have hsz:=hb.size
   cases he:(x == n) with
   | true =>
    have HR:Hid (us.any (fun u=>u.1 == n)=true):=by
     show _=_
     rw [List.any_eq_true];exact ⟨us[k],List.getElem_mem hlt,by rw [hxy];exact he⟩
    clear HN hxy
    go_wp2
    go_ret
    exact ⟨ret_bool HR.out.symm,hb.alloc hsz _⟩
   | false =>
    have HY:Hid ((us.take (k+1)).any (fun u=>u.1 == n)=false):=by show _=_;rw [any_take hlt,HN.out,hxy];exact he
    clear HN hxy
    go_wp2
    go_roundw
    case rel=>exact ⟨k+1,by omega,by go_num,HY.out,hb.alloc hsz _⟩
    case measure=>simp [intOf];omega
  ·obtain rfl:k=us.length:=by omega
   have HR:Hid (us.any (fun u=>u.1 == n)=false):=by show _=_;have:=HN.out;rwa [List.take_length] at this
   clear HN
   go_wp2
   go_ret
   exact ⟨ret_bool HR.out.symm,hb⟩
theorem xIn_len (q:Hs):(xIn q).length≤q.length:=List.length_filter_le _ _
theorem xIn_mem {q:Hs} (h:∀ p∈q,p.1.length≤1000000∧p.2.length≤1000000):∀ p∈xIn q,p.1.length≤1000000∧p.2.length≤1000000:=fun p hp=>h p (List.mem_filter.1 hp).1
theorem fnum_le (ps:Hs) (n:Tx) (lo hi:Nat):optN (fnumP ps n lo hi)≤hi:=optN_le
theorem readPairs_any (v:Value) (ps:Hs) (w:World) (G:GL w) (h:R.phold w w.heap.size v ps) (hl:ps.length≤1000000) (hb:∀ p∈ps,p.1.length≤1000000∧p.2.length≤1000000) :
  Calls Tryz.prog 167 #[v] w (clPost w (pairsP ps)):=by
 have C:=rPairs_core v ps (optT (R.findP ps xUser)) (optT (R.findP ps xList)) (optT (R.findP ps xSig)) (optN (fnumP ps xTime 0 1000000000000)) (optN (fnumP ps xFor 1 604800)) (R.findP ps xUser).isSome (fnumP ps xTime 0 1000000000000).isSome (fnumP ps xFor 1 604800).isSome (R.findP ps xList).isSome (R.findP ps xSig).isSome
  (fnum_le _ _ _ _) (Nat.le_trans (fnum_le ps xFor 1 604800) (by omega)) w G h hl (fun w h=>find_all v ps xUser w h (by omega)) (fun w G h=>findNum_any v ps xTime 0 1000000000000 (by omega) w G h hl hb) (fun w G h=>findNum_any v ps xFor 1 604800 (by omega) w G h hl hb)
  (fun w h=>find_all v ps xList w h (by omega)) (fun w h=>find_all v ps xSig w h (by omega))
 refine C.mono ?_
 rintro e w' ⟨rfl,hb'⟩
 unfold pairsP
 cases h1:R.findP ps xUser with
 | none=>exact clPost_no (o:=none) rfl hb' _ _ _ _ _
 | some u=>cases h2:fnumP ps xTime 0 1000000000000 with
  | none=>exact clPost_no (o:=none) rfl hb' _ _ _ _ _
  | some t=>cases h3:fnumP ps xFor 1 604800 with
   | none=>exact clPost_no (o:=none) rfl hb' _ _ _ _ _
   | some f=>cases h4:R.findP ps xList with
    | none=>exact clPost_no (o:=none) rfl hb' _ _ _ _ _
    | some l=>cases h5:R.findP ps xSig with
     | none=>exact clPost_no (o:=none) rfl hb' _ _ _ _ _
     | some s =>
      by_cases hn:ps.length=5
      ·have hf:1≤f:=(numP_le h3).2
       simp only [hn,decide_true,Option.isSome,Bool.and_self,if_true]
       refine ⟨hb',?_⟩
       simp only [claimV,optT,optN,Option.getD_some,Ending.returned.injEq,Value.tuple.injEq]
       rw [show ((t+f - 1:Nat):Int)=(t:Int)+(f:Int) - 1 by omega]
      ·simp only [hn,decide_false,Bool.and_false,if_false]
       exact clPost_no (o:=none) rfl hb' _ _ _ _ _
theorem readClaim_any (m p:Tx) (q hs:Hs) (qv hv:Value) (y:Tx) (w:World) (G:GL w) (hq:R.phold w w.heap.size qv q) (hh:R.phold w w.heap.size hv hs) (b3:q.length≤1000000) (b4:∀ p∈q,p.1.length≤1000000∧p.2.length≤1000000) (b5:hs.length≤1000000) (b8:∀ p∈hs,p.1.length≤1000000∧p.2.length≤1000000) :
  Calls Tryz.prog 117 #[.agg #[str m,str p,qv,hv,str y]] w (clPost w (claimP q hs)):=by
 obtain ⟨qa,qc,rfl⟩:=R.phold.len hq
 obtain ⟨ha,hc,rfl⟩:=R.phold.len hh
 have b0:Below w.heap.size w ((w.alloc (.cells #[str m,str p,.slice qa q.length qc,.slice ha hs.length hc,str y] 97)).alloc zeroC):=((Below.refl _ _).alloc (Nat.le_refl _) _).alloc (by simp) _
 have HQ:=R.phold.call hq b0
 have HH:=R.phold.call hh b0
 have G0:=G.call b0
 have F:Hid (_):=fun w h=>find_all (.slice ha hs.length hc) hs tAuth w h (by omega)
 have PC:Hid (_):=fun w h=>pairsClaim_any (.slice qa q.length qc) q w h b3
 have RP:Hid (∀ v w,GL w→R.phold w w.heap.size v (xIn q)→Calls Tryz.prog 167 #[v] w (clPost w (pairsP (xIn q)))):=fun v w G h=>readPairs_any v (xIn q) w G h (Nat.le_trans (xIn_len q) b3) (xIn_mem b4)
 have HC:Hid (claimP q hs=match R.findP hs tAuth with|some v=>if (xIn q).length=0 then headP v else none|none=>pairsP (xIn q)):=rfl
 go_enter Tryz.func117,Tryz.ntmps117
 go_wp2_with fail
 refine Calls.mono (F.out _ HH) ?_
 rintro e w1 ⟨rfl,b1⟩
 have HQ1:=R.phold.call HQ b1
 have hz:w.heap.size+1 < ((w.alloc (.cells #[str m,str p,.slice qa q.length qc,.slice ha hs.length hc,str y] 97)).alloc zeroC).heap.size:=by simp
 have c2:w1.cell? ⟨w.heap.size,2,none⟩=some (.slice qa q.length qc):=(b1.cell (p:=⟨w.heap.size,2,none⟩) (by simp;omega)).trans (by simp [go_sem])
 go_wp2_with fail
 refine Calls.mono (PC.out _ HQ1) ?_
 rintro e w2 ⟨pv,rfl,hp,b2⟩
 have B12:=below_trans b1 b2
 have B2:=below_trans b0 B12
 have G2:=G0.call B12
 have HP:=R.prow.hold hp
 obtain ⟨pa,pc,rfl⟩:=R.phold.len HP
 have lw:w.heap.size+1 < w2.heap.size:=Nat.lt_of_lt_of_le hz B12.size
 have d0:w2.cell? ⟨w.heap.size+1,0,none⟩=some (str []):=(B12.cell (p:=⟨w.heap.size+1,0,none⟩) hz).trans (by simp [go_sem])
 have d1:w2.cell? ⟨w.heap.size+1,1,none⟩=some (str []):=(B12.cell (p:=⟨w.heap.size+1,1,none⟩) hz).trans (by simp [go_sem])
 have d2:w2.cell? ⟨w.heap.size+1,2,none⟩=some (str []):=(B12.cell (p:=⟨w.heap.size+1,2,none⟩) hz).trans (by simp [go_sem])
 have d3:w2.cell? ⟨w.heap.size+1,3,none⟩=some (.int .i64 0):=(B12.cell (p:=⟨w.heap.size+1,3,none⟩) hz).trans (by simp [go_sem])
 have d4:w2.cell? ⟨w.heap.size+1,4,none⟩=some (.int .i64 0):=(B12.cell (p:=⟨w.heap.size+1,4,none⟩) hz).trans (by simp [go_sem])
 have g0:∀ j:Nat,w2.frozen? ⟨w.heap.size+1,j,none⟩=false:=fun j=>(B12.frozen (p:=⟨w.heap.size+1,j,none⟩) hz).trans (by simp [go_sem])
 clear F PC HQ HH HQ1 c2 b1 b2 B12 b0 hp hz
 cases hf:R.findP hs tAuth with
 | none =>
  rw [hf] at HC
  simp only at HC
  go_wp2_with fail
  refine Calls.mono (RP.out _ w2 G2 HP) ?_
  have HX:Hid (claimP q hs=pairsP (xIn q)):=HC.out
  cases ho:pairsP (xIn q) with
  | none =>
   rintro e w3 ⟨c3,u,l,s,n,m',rfl⟩
   rw [ho] at HX
   replace d0:=(c3.cell (p:=⟨w.heap.size+1,0,none⟩) lw).trans d0
   replace d1:=(c3.cell (p:=⟨w.heap.size+1,1,none⟩) lw).trans d1
   replace d2:=(c3.cell (p:=⟨w.heap.size+1,2,none⟩) lw).trans d2
   replace d3:=(c3.cell (p:=⟨w.heap.size+1,3,none⟩) lw).trans d3
   replace d4:=(c3.cell (p:=⟨w.heap.size+1,4,none⟩) lw).trans d4
   replace g0:∀ j:Nat,w3.frozen? ⟨w.heap.size+1,j,none⟩=false:=fun j=>(c3.frozen (p:=⟨w.heap.size+1,j,none⟩) lw).trans (g0 j)
   replace B2:=below_trans B2 c3
   go_wp2
   refine bodyPost_ret (v:=.tuple #[.agg #[str u,str l,str s,.int .i64 n,.int .i64 m'],.bool false]) ?_ rfl ?_
   ·simp [results,Tryz.results117,go_sem,d0,d1,d2,d3,d4]
   ·exact clPost_no HX.out (R.below_set5 B2 (Nat.le_succ _) _ _ _ _ _) _ _ _ _ _
  | some k =>
   obtain ⟨u,l,s,n,m'⟩:=k
   rintro e w3 ⟨c3,rfl⟩
   dsimp only [claimV]
   rw [ho] at HX
   replace d0:=(c3.cell (p:=⟨w.heap.size+1,0,none⟩) lw).trans d0
   replace d1:=(c3.cell (p:=⟨w.heap.size+1,1,none⟩) lw).trans d1
   replace d2:=(c3.cell (p:=⟨w.heap.size+1,2,none⟩) lw).trans d2
   replace d3:=(c3.cell (p:=⟨w.heap.size+1,3,none⟩) lw).trans d3
   replace d4:=(c3.cell (p:=⟨w.heap.size+1,4,none⟩) lw).trans d4
   replace g0:∀ j:Nat,w3.frozen? ⟨w.heap.size+1,j,none⟩=false:=fun j=>(c3.frozen (p:=⟨w.heap.size+1,j,none⟩) lw).trans (g0 j)
   replace B2:=below_trans B2 c3
   go_wp2
   refine bodyPost_ret (v:=.tuple #[.agg #[str u,str l,str s,.int .i64 (n:Int),.int .i64 (m':Int)],.bool true]) ?_ rfl ?_
   ·simp [results,Tryz.results117,go_sem,d0,d1,d2,d3,d4]
   ·exact clPost_ok HX.out (R.below_set5 B2 (Nat.le_succ _) _ _ _ _ _)
 | some v =>
  rw [hf] at HC
  simp only at HC
  have hvl:v.length≤1000000:=(b8 _ (R.find_in hf)).2
  have RH:Hid (_):=fun w G=>rHeader_any v hvl w G
  by_cases h0:(xIn q).length=0
  ·have t0:(((xIn q).length:Int) == 0)=true:=by rw [beq_iff_eq];omega
   rw [if_pos h0] at HC
   simp only [optT,Option.getD_some,Option.isSome]
   go_wp2_with fail
   refine Calls.mono (RH.out w2 G2) ?_
   have HX:Hid (claimP q hs=headP v):=HC.out
   cases ho:headP v with
   | none =>
    rintro e w3 ⟨c3,u,l,s,n,m',rfl⟩
    rw [ho] at HX
    replace d0:=(c3.cell (p:=⟨w.heap.size+1,0,none⟩) lw).trans d0
    replace d1:=(c3.cell (p:=⟨w.heap.size+1,1,none⟩) lw).trans d1
    replace d2:=(c3.cell (p:=⟨w.heap.size+1,2,none⟩) lw).trans d2
    replace d3:=(c3.cell (p:=⟨w.heap.size+1,3,none⟩) lw).trans d3
    replace d4:=(c3.cell (p:=⟨w.heap.size+1,4,none⟩) lw).trans d4
    replace g0:∀ j:Nat,w3.frozen? ⟨w.heap.size+1,j,none⟩=false:=fun j=>(c3.frozen (p:=⟨w.heap.size+1,j,none⟩) lw).trans (g0 j)
    replace B2:=below_trans B2 c3
    go_wp2
    refine bodyPost_ret (v:=.tuple #[.agg #[str u,str l,str s,.int .i64 n,.int .i64 m'],.bool false]) ?_ rfl ?_
    ·simp [results,Tryz.results117,go_sem,d0,d1,d2,d3,d4]
    ·exact clPost_no HX.out (R.below_set5 B2 (Nat.le_succ _) _ _ _ _ _) _ _ _ _ _
   | some k =>
    obtain ⟨u,l,s,n,m'⟩:=k
    rintro e w3 ⟨c3,rfl⟩
    dsimp only [claimV]
    rw [ho] at HX
    replace d0:=(c3.cell (p:=⟨w.heap.size+1,0,none⟩) lw).trans d0
    replace d1:=(c3.cell (p:=⟨w.heap.size+1,1,none⟩) lw).trans d1
    replace d2:=(c3.cell (p:=⟨w.heap.size+1,2,none⟩) lw).trans d2
    replace d3:=(c3.cell (p:=⟨w.heap.size+1,3,none⟩) lw).trans d3
    replace d4:=(c3.cell (p:=⟨w.heap.size+1,4,none⟩) lw).trans d4
    replace g0:∀ j:Nat,w3.frozen? ⟨w.heap.size+1,j,none⟩=false:=fun j=>(c3.frozen (p:=⟨w.heap.size+1,j,none⟩) lw).trans (g0 j)
    replace B2:=below_trans B2 c3
    go_wp2
    refine bodyPost_ret (v:=.tuple #[.agg #[str u,str l,str s,.int .i64 (n:Int),.int .i64 (m':Int)],.bool true]) ?_ rfl ?_
    ·simp [results,Tryz.results117,go_sem,d0,d1,d2,d3,d4]
    ·exact clPost_ok HX.out (R.below_set5 B2 (Nat.le_succ _) _ _ _ _ _)
  ·have t0:(((xIn q).length:Int) == 0)=false:=by rw [beq_eq_false_iff_ne];omega
   rw [if_neg h0] at HC
   simp only [optT,Option.getD_some,Option.isSome]
   go_wp2
   refine bodyPost_ret (v:=.tuple #[.agg #[str [],str [],str [],.int .i64 0,.int .i64 0],.bool false]) ?_ rfl ?_
   ·simp [results,Tryz.results117,go_sem,d0,d1,d2,d3,d4]
   ·exact clPost_no HC.out (R.below_set5 B2 (Nat.le_succ _) _ _ _ _ _) _ _ _ _ _
end Go.Proofs.YtbllcgibmgbnjaaGreatDoor.P
