/- Texts that the proof is built on (Kp, RuX, LvM); no statement of the seat. -/
import Derived.Test.YtdniokdgghpkbaaGreatDoorPkC15
import Derived.Test.YtdniokdgghpkbaaGreatDoorPkC21
import Derived.Test.YtdniokdgghpkbaaGreatDoorPkC16
import Derived.Test.YtdniokdgghpkbaaGreatDoorPkC36
import Derived.Deep.AppendLies
namespace StoreMath
def shut:Nat→List UInt8→Nat
 | 0,_=>0
 | _+1,[]=>0
 | d+1,c :: cs=>1+shut (if c=41 then d else if c=40 then d+2 else d+1) cs
def pieces:List UInt8→List (List UInt8)
 | []=>[]
 | c :: cs=>if c=40 then (c :: cs.take (shut 1 cs)) :: pieces cs else pieces cs
def dd (out l:List (List UInt8)):List (List UInt8):=l.foldl (fun o x=>if x∈o then o else o ++ [x]) out
theorem shut_more {d:Nat} {c:UInt8} {cs:List UInt8} (h1:c ≠ 40) (h2:c ≠ 41):shut (d+1) (c :: cs)=1+shut (d+1) cs:=by
 show 1+shut (if c=41 then d else if c=40 then d+2 else d+1) cs=_
 rw [if_neg h2,if_neg h1]
theorem shut_open (d:Nat) (cs:List UInt8):shut (d+1) (40 :: cs)=1+shut (d+2) cs:=by
 show 1+shut (if (40:UInt8)=41 then d else if (40:UInt8)=40 then d+2 else d+1) cs=_
 rw [if_neg (by decide),if_pos rfl]
theorem shut_shut (d:Nat) (cs:List UInt8):shut (d+1) (41 :: cs)=1+shut d cs:=by
 show 1+shut (if (41:UInt8)=41 then d else if (41:UInt8)=40 then d+2 else d+1) cs=_
 rw [if_pos rfl]
theorem shut_skip:∀ (l rest:List UInt8) (d:Nat),(∀ c∈l,c ≠ 40∧c ≠ 41)→shut (d+1) (l ++ rest)=l.length+shut (d+1) rest
 | [],rest,d,_=>by simp
 | c :: l,rest,d,h=>by
  have h1:=h c List.mem_cons_self
  rw [List.cons_append,shut_more h1.1 h1.2,shut_skip l rest d (fun x hx=>h x (List.mem_cons_of_mem _ hx)),List.length_cons]
  omega
def Good (s:List UInt8):Prop:=∀ c∈s,c ≠ 32∧c ≠ 40∧c ≠ 41
def Stop (s:List UInt8):Prop:=s=[]∨∃ c r,s=c :: r∧(c=32∨c=40∨c=41)
theorem run_inj:∀ (l m a b:List UInt8),Good l→Good m→Stop a→Stop b→l ++ a=m ++ b→l=m∧a=b
 | [],[],a,b,_,_,_,_,h=>⟨rfl,h⟩
 | [],c :: m,a,b,_,h2,h3,_,h=>by
  have hc:=h2 c List.mem_cons_self
  rcases h3 with rfl | ⟨d,r,rfl,hd⟩
  ·cases h
  ·injection h with h
   subst h
   rcases hd with h | h | h
   ·exact absurd h hc.1
   ·exact absurd h hc.2.1
   ·exact absurd h hc.2.2
 | c :: l,[],a,b,h1,_,_,h4,h=>by
  have hc:=h1 c List.mem_cons_self
  rcases h4 with rfl | ⟨d,r,rfl,hd⟩
  ·cases h
  ·injection h with h
   subst h
   rcases hd with h | h | h
   ·exact absurd h hc.1
   ·exact absurd h hc.2.1
   ·exact absurd h hc.2.2
 | c :: l,e :: m,a,b,h1,h2,h3,h4,h=>by
  injection h with h h'
  obtain ⟨e1,e2⟩:=run_inj l m a b (fun x hx=>h1 x (List.mem_cons_of_mem _ hx)) (fun x hx=>h2 x (List.mem_cons_of_mem _ hx)) h3 h4 h'
  exact ⟨by rw [h,e1],e2⟩
theorem stop_of {s:List UInt8} (h:s=[]∨∃ r,s=32 :: r∨s=41 :: r):Stop s:=by
 rcases h with rfl | ⟨r,rfl | rfl⟩
 ·exact .inl rfl
 ·exact .inr ⟨32,r,rfl,.inl rfl⟩
 ·exact .inr ⟨41,r,rfl,.inr (.inr rfl)⟩
def Fine:Tr→Prop
 | .leaf s=>Good s
 | .node pre lab lo hi=>Good pre∧Good lab∧Fine lo∧Fine hi
theorem tx_node (pre lab:List UInt8) (lo hi:Tr) (rest:List UInt8):tx (.node pre lab lo hi) ++ rest=pre ++ 40 :: (lab ++ 32 :: (tx lo ++ 32 :: (tx hi ++ 41 :: rest))):=by
 simp [tx]
theorem shut_tx:∀ (T:Tr),Fine T→∀ (d:Nat) (rest:List UInt8),shut (d+1) (tx T ++ rest)=(tx T).length+shut (d+1) rest
 | .leaf s,h,d,rest=>shut_skip _ _ _ (fun c hc=>(h c hc).2)
 | .node pre lab lo hi,h,d,rest=>by
  obtain ⟨h0,h1,h2,h3⟩:=h
  have hlen:(tx (.node pre lab lo hi)).length=pre.length+lab.length+(tx lo).length+(tx hi).length+4:=by simp [tx];omega
  rw [tx_node,shut_skip _ _ _ (fun c hc=>(h0 c hc).2),shut_open,shut_skip _ _ _ (fun c hc=>(h1 c hc).2),shut_more (by decide) (by decide),shut_tx lo h2,shut_more (by decide) (by decide),shut_tx hi h3,shut_shut,hlen]
  omega
def nodesT:Tr→List (List UInt8)
 | .leaf _=>[]
 | .node _ lab lo hi=>([40] ++ lab ++ [32] ++ tx lo ++ [32] ++ tx hi ++ [41]) :: (nodesT lo ++ nodesT hi)
theorem pieces_more {c:UInt8} {cs:List UInt8} (h:c ≠ 40):pieces (c :: cs)=pieces cs:=if_neg h
theorem pieces_skip:∀ (l rest:List UInt8),(∀ c∈l,c ≠ 40)→pieces (l ++ rest)=pieces rest
 | [],rest,_=>rfl
 | c :: l,rest,h=>by
  rw [List.cons_append,pieces_more (h c List.mem_cons_self)]
  exact pieces_skip l rest (fun x hx=>h x (List.mem_cons_of_mem _ hx))
theorem pieces_tx:∀ (T:Tr),Fine T→∀ rest:List UInt8,pieces (tx T ++ rest)=nodesT T ++ pieces rest
 | .leaf s,h,rest=>pieces_skip _ _ (fun c hc=>(h c hc).2.1)
 | .node pre lab lo hi,h,rest=>by
  obtain ⟨h0,h1,h2,h3⟩:=h
  rw [tx_node,pieces_skip _ _ (fun c hc=>(h0 c hc).2.1)]
  have hs:shut 1 (lab ++ 32 :: (tx lo ++ 32 :: (tx hi ++ 41 :: rest)))=(lab ++ 32 :: (tx lo ++ 32 :: (tx hi ++ [41]))).length:=by
   rw [shut_skip _ _ _ (fun c hc=>(h1 c hc).2),shut_more (by decide) (by decide),shut_tx lo h2,shut_more (by decide) (by decide),shut_tx hi h3,shut_shut]
   simp [shut];omega
  show (if (40:UInt8)=40 then (40 :: List.take (shut 1 (lab ++ 32 :: (tx lo ++ 32 :: (tx hi ++ 41 :: rest)))) (lab ++ 32 :: (tx lo ++ 32 :: (tx hi ++ 41 :: rest)))) :: pieces (lab ++ 32 :: (tx lo ++ 32 :: (tx hi ++ 41 :: rest))) else _)=_
  rw [if_pos rfl,hs,show (lab ++ 32 :: (tx lo ++ 32 :: (tx hi ++ 41 :: rest)))=(lab ++ 32 :: (tx lo ++ 32 :: (tx hi ++ [41]))) ++ rest by simp,List.take_left]
  rw [show (lab ++ 32 :: (tx lo ++ 32 :: (tx hi ++ [41]))) ++ rest=(lab ++ 32 :: (tx lo ++ 32 :: (tx hi ++ 41 :: rest))) by simp]
  rw [pieces_skip _ _ (fun c hc=>(h1 c hc).2.1),pieces_more (by decide),pieces_tx lo h2,pieces_more (by decide),pieces_tx hi h3,pieces_more (by decide)]
  simp [nodesT]
theorem tx_inj:∀ (T T':Tr),Fine T→Fine T'→∀ s s':List UInt8,(s=[]∨∃ r,s=32 :: r∨s=41 :: r)→(s'=[]∨∃ r,s'=32 :: r∨s'=41 :: r)→tx T ++ s=tx T' ++ s'→T=T'∧s=s'
 | .leaf a,.leaf b,h,h',s,s',hs,hs',e=>by
  obtain ⟨e1,e2⟩:=run_inj a b s s' h h' (stop_of hs) (stop_of hs') e
  exact ⟨by rw [e1],e2⟩
 | .leaf a,.node p lab lo hi,h,h',s,s',hs,hs',e=>by
  rw [tx_node] at e
  obtain ⟨e1,e2⟩:=run_inj a p s _ h h'.1 (stop_of hs) (.inr ⟨40,_,rfl,.inr (.inl rfl)⟩) e
  rcases hs with rfl | ⟨r,rfl | rfl⟩
  ·cases e2
  ·injection e2 with e2;exact absurd e2 (by decide)
  ·injection e2 with e2;exact absurd e2 (by decide)
 | .node p lab lo hi,.leaf b,h,h',s,s',hs,hs',e=>by
  rw [tx_node] at e
  obtain ⟨e1,e2⟩:=run_inj p b _ s' h.1 h' (.inr ⟨40,_,rfl,.inr (.inl rfl)⟩) (stop_of hs') e
  rcases hs' with rfl | ⟨r,rfl | rfl⟩
  ·cases e2
  ·injection e2 with e2;exact absurd e2 (by decide)
  ·injection e2 with e2;exact absurd e2 (by decide)
 | .node p lab lo hi,.node p' lab' lo' hi',h,h',s,s',hs,hs',e=>by
  obtain ⟨h0,h1,h2,h3⟩:=h
  obtain ⟨h0',h1',h2',h3'⟩:=h'
  rw [tx_node,tx_node] at e
  obtain ⟨rfl,e0⟩:=run_inj _ _ _ _ h0 h0' (.inr ⟨40,_,rfl,.inr (.inl rfl)⟩) (.inr ⟨40,_,rfl,.inr (.inl rfl)⟩) e
  injection e0 with _ e0
  obtain ⟨rfl,e1⟩:=run_inj _ _ _ _ h1 h1' (.inr ⟨32,_,rfl,.inl rfl⟩) (.inr ⟨32,_,rfl,.inl rfl⟩) e0
  injection e1 with _ e1
  obtain ⟨rfl,e2⟩:=tx_inj lo lo' h2 h2' _ _ (.inr ⟨_,.inl rfl⟩) (.inr ⟨_,.inl rfl⟩) e1
  injection e2 with _ e2
  obtain ⟨rfl,e3⟩:=tx_inj hi hi' h3 h3' _ _ (.inr ⟨_,.inr rfl⟩) (.inr ⟨_,.inr rfl⟩) e2
  injection e3 with _ e3
  exact ⟨rfl,e3⟩
theorem dig_of {d:Nat} (h:d < 10):UInt8.ofNat (48+d) ≠ 32∧UInt8.ofNat (48+d) ≠ 40∧UInt8.ofNat (48+d) ≠ 41:=by
 have:d=0∨d=1∨d=2∨d=3∨d=4∨d=5∨d=6∨d=7∨d=8∨d=9:=by omega
 rcases this with rfl | rfl | rfl | rfl | rfl | rfl | rfl | rfl | rfl | rfl <;> decide
theorem dig_inj {d e:Nat} (h:d < 10) (h':e < 10) (he:UInt8.ofNat (48+d)=UInt8.ofNat (48+e)):d=e:=by
 have:=congrArg UInt8.toNat he
 simp at this
 omega
theorem dec_fine {l:Nat} (h:l < 100):∀ c∈Go.Lib.decDigits l,c ≠ 32∧c ≠ 40∧c ≠ 41:=by
 by_cases h1:l < 10
 ·rw [Go.Lib.decDigits_one h1]
  intro c hc
  simp only [List.mem_singleton] at hc
  rw [hc];exact dig_of h1
 ·rw [Go.Lib.decDigits_two h1 h]
  intro c hc
  simp only [List.mem_cons,List.not_mem_nil,or_false] at hc
  rcases hc with rfl | rfl
  ·exact dig_of (by omega)
  ·exact dig_of (by omega)
theorem dec_inj {l m:Nat} (h:l < 100) (h':m < 100) (he:Go.Lib.decDigits l=Go.Lib.decDigits m):l=m:=by
 by_cases h1:l < 10
 ·by_cases h2:m < 10
  ·rw [Go.Lib.decDigits_one h1,Go.Lib.decDigits_one h2] at he
   injection he with he
   exact dig_inj h1 h2 he
  ·rw [Go.Lib.decDigits_one h1,Go.Lib.decDigits_two h2 h'] at he
   injection he with _ he
   cases he
 ·by_cases h2:m < 10
  ·rw [Go.Lib.decDigits_two h1 h,Go.Lib.decDigits_one h2] at he
   injection he with _ he
   cases he
  ·rw [Go.Lib.decDigits_two h1 h,Go.Lib.decDigits_two h2 h'] at he
   injection he with e1 he
   injection he with e2 _
   have:=dig_inj (by omega) (by omega) e1
   have:=dig_inj (by omega) (by omega) e2
   omega
theorem dd_mem:∀ (l out:List (List UInt8)) (x:List UInt8),x∈dd out l↔x∈out∨x∈l
 | [],out,x=>by simp [dd]
 | y :: l,out,x=>by
  show x∈dd (if y∈out then out else out ++ [y]) l↔_
  rw [dd_mem l]
  split
  ·rename_i h
   constructor
   ·rintro (h1 | h1)
    ·exact .inl h1
    ·exact .inr (List.mem_cons_of_mem _ h1)
   ·rintro (h1 | h1)
    ·exact .inl h1
    ·rcases List.mem_cons.1 h1 with rfl | h1
     ·exact .inl h
     ·exact .inr h1
  ·simp only [List.mem_append,List.mem_cons,List.not_mem_nil,or_false,or_assoc]
theorem dd_nodup:∀ (l out:List (List UInt8)),out.Nodup→(dd out l).Nodup
 | [],out,h=>h
 | y :: l,out,h=>by
  show (dd (if y∈out then out else out ++ [y]) l).Nodup
  refine dd_nodup l _ ?_
  split
  ·exact h
  ·rename_i hy
   rw [List.nodup_append]
   exact ⟨h,by simp,fun a ha b hb=>by simp at hb;rintro rfl;exact hy (hb ▸ ha)⟩
theorem nodup_le {α:Type} [DecidableEq α]:∀ (l m:List α),l.Nodup→(∀ x∈l,x∈m)→l.length≤m.length
 | [],_,_,_=>Nat.zero_le _
 | x :: l,m,h,hs=>by
  obtain ⟨h1,h2⟩:=List.nodup_cons.1 h
  have hx:=hs x List.mem_cons_self
  have:=nodup_le l (m.erase x) h2 (fun y hy=>(List.mem_erase_of_ne (fun e=>h1 (by rw [← e];exact hy))).2 (hs y (List.mem_cons_of_mem _ hy)))
  rw [List.length_erase_of_mem hx] at this
  have:=List.length_pos_of_mem hx
  rw [List.length_cons];omega
theorem nodup_map {α β:Type} {f:α→β}:∀ (l:List α),l.Nodup→(∀ x∈l,∀ y∈l,f x=f y→x=y)→(l.map f).Nodup
 | [],_,_=>List.nodup_nil
 | x :: l,h,hf=>by
  obtain ⟨h1,h2⟩:=List.nodup_cons.1 h
  rw [List.map_cons,List.nodup_cons]
  refine ⟨fun hx=>?_,nodup_map l h2 (fun y hy z hz=>hf y (List.mem_cons_of_mem _ hy) z (List.mem_cons_of_mem _ hz))⟩
  obtain ⟨y,hy,e⟩:=List.mem_map.1 hx
  exact h1 ((hf y (List.mem_cons_of_mem _ hy) x List.mem_cons_self e) ▸ hy)
end StoreMath
namespace StoreMath
open ArenaMath IndexMath MarkMath Go.Proofs.YtdniokdgghpkbaaGreatDoor.Nd.NodeMath Go.Proofs.YtdniokdgghpkbaaGreatDoor
def gKey (f t:Nat):Nat:=if f=5 then t else 0
def gSub (f:Nat):Gt→List Gt
 | .nul=>[]
 | .one _=>[]
 | .node _ t b lo hi=>.node (gKey f t) t b lo hi :: (gSub f lo ++ gSub f hi)
def gBody (f:Nat):Gt→List UInt8
 | .nul=>[]
 | .one _=>[]
 | .node _ t b lo hi=>[40] ++ labG f t b ++ [32] ++ tx (toG f lo) ++ [32] ++ tx (toG f hi) ++ [41]
section
variable {f n l m k:Nat} {x y z:Gt}
theorem good_append {a b:List UInt8} (h1:Good a) (h2:Good b):Good (a ++ b):=fun c hc=>by
 rcases List.mem_append.1 hc with h | h
 ·exact h1 c h
 ·exact h2 c h
theorem good_one {c:UInt8} (h:c ≠ 32∧c ≠ 40∧c ≠ 41):Good [c]:=fun d hd=>by rw [List.mem_singleton.1 hd];exact h
theorem pre_good {u:Nat} (h:u < 100):Good (preG f u):=by
 unfold preG
 split
 ·exact good_append (dec_fine h) (good_one (by decide))
 ·exact fun c hc=>by cases hc
theorem lab_good {t b:Nat} (h:t < 100) (h':b < 100):Good (labG f t b):=by
 unfold labG
 split
 ·exact good_append (good_append (dec_fine h) (good_one (by decide))) (dec_fine h')
 ·exact dec_fine h
theorem fine_toG (hn:n≤16):∀ {x:Gt} {l:Nat},Gw f n x l→Fine (toG f x)
 | .nul,_,_=>good_one (by decide)
 | .one k,_,h=>good_append (pre_good (gw_one hn h)) (good_one (by decide))
 | .node k t b lo hi,_,h=>by
  obtain ⟨c1,c2,c3,_⟩:=gw_small hn h
  obtain ⟨h1,h2,h3,-,h6,h7⟩:=h
  exact ⟨pre_good c1,lab_good c2 c3,fine_toG hn h6,fine_toG hn h7⟩
theorem dig_colon {d:Nat} (h:d < 10):UInt8.ofNat (48+d) ≠ 58:=by
 have:d=0∨d=1∨d=2∨d=3∨d=4∨d=5∨d=6∨d=7∨d=8∨d=9:=by omega
 rcases this with rfl | rfl | rfl | rfl | rfl | rfl | rfl | rfl | rfl | rfl <;> decide
theorem dec_colon {l:Nat} (h:l < 100):∀ c∈Go.Lib.decDigits l,c ≠ 58:=by
 by_cases h1:l < 10
 ·rw [Go.Lib.decDigits_one h1]
  intro c hc
  simp only [List.mem_singleton] at hc
  rw [hc];exact dig_colon h1
 ·rw [Go.Lib.decDigits_two h1 h]
  intro c hc
  simp only [List.mem_cons,List.not_mem_nil,or_false] at hc
  rcases hc with rfl | rfl
  ·exact dig_colon (by omega)
  ·exact dig_colon (by omega)
theorem sep_inj (s:UInt8):∀ (l m a b:List UInt8),(∀ c∈l,c ≠ s)→(∀ c∈m,c ≠ s)→l ++ s :: a=m ++ s :: b→l=m∧a=b
 | [],[],a,b,_,_,h=>⟨rfl,by injection h⟩
 | [],c :: m,a,b,_,h2,h=>by injection h with h;exact absurd h.symm (h2 c List.mem_cons_self)
 | c :: l,[],a,b,h1,_,h=>by injection h with h;exact absurd h (h1 c List.mem_cons_self)
 | c :: l,e :: m,a,b,h1,h2,h=>by
  injection h with h h'
  obtain ⟨e1,e2⟩:=sep_inj s l m a b (fun x hx=>h1 x (List.mem_cons_of_mem _ hx)) (fun x hx=>h2 x (List.mem_cons_of_mem _ hx)) h'
  exact ⟨by rw [h,e1],e2⟩
theorem lab_same {t b t' b':Nat} (h1:t < 100) (h2:b < 100) (h3:t' < 100) (h4:b' < 100) (hb:f ≠ 3→f ≠ 4→t=b∧t'=b') (h:labG f t b=labG f t' b'):t=t'∧b=b':=by
 unfold labG at h
 by_cases e:f=3∨f=4
 ·rw [if_pos e,if_pos e,List.append_assoc,List.append_assoc] at h
  obtain ⟨e1,e2⟩:=sep_inj 58 _ _ _ _ (dec_colon h1) (dec_colon h3) h
  exact ⟨dec_inj h1 h3 e1,dec_inj h2 h4 e2⟩
 ·rw [if_neg e,if_neg e] at h
  have:=dec_inj h1 h3 h
  obtain ⟨e1,e2⟩:=hb (fun e'=>e (.inl e')) (fun e'=>e (.inr e'))
  omega
theorem pre_same {u v:Nat} (h:u < 100) (h':v < 100) (hz:f ≠ 5→u=0∧v=0) (e:preG f u=preG f v):u=v:=by
 by_cases e5:f=5
 ·unfold preG at e
  rw [if_pos e5,if_pos e5] at e
  unfold tagL at e
  exact dec_inj h h' (List.append_cancel_right e)
 ·have:=hz e5;omega
theorem toG_inj (hf:IsF f) (hn:n≤16):∀ {x y:Gt} {l m:Nat},Gw f n x l→Gw f n y m→toG f x=toG f y→x=y
 | .nul,.nul,_,_,_,_,_=>rfl
 | .nul,.one k,_,_,_,h2,h=>by
  injection h with h
  exfalso
  have hk:=gw_one hn h2
  unfold preG at h
  by_cases e5:f=5
  ·rw [if_pos e5] at h
   have e:=congrArg List.length h
   have:=tag_short hk
   rw [List.length_append,List.length_singleton,List.length_singleton] at e
   omega
  ·rw [if_neg e5] at h;exact absurd h (by decide)
 | .one k,.nul,_,_,h1,_,h=>by
  injection h with h
  exfalso
  have hk:=gw_one hn h1
  unfold preG at h
  by_cases e5:f=5
  ·rw [if_pos e5] at h
   have e:=congrArg List.length h
   have:=tag_short hk
   rw [List.length_append,List.length_singleton,List.length_singleton] at e
   omega
  ·rw [if_neg e5] at h;exact absurd h (by decide)
 | .one k,.one k',_,_,h1,h2,h=>by
  injection h with h
  rw [pre_same (gw_one hn h1) (gw_one hn h2) (fun e=>⟨h1.2 e,h2.2 e⟩) (List.append_cancel_right h)]
 | .nul,.node _ _ _ _ _,_,_,_,_,h=>by cases h
 | .one _,.node _ _ _ _ _,_,_,_,_,h=>by cases h
 | .node _ _ _ _ _,.nul,_,_,_,_,h=>by cases h
 | .node _ _ _ _ _,.one _,_,_,_,_,h=>by cases h
 | .node k t b lo hi,.node k' t' b' lo' hi',_,_,h1,h2,h=>by
  injection h with e0 e1 e2 e3
  obtain ⟨c1,c2,c3,_⟩:=gw_small hn h1
  obtain ⟨d1,d2,d3,_⟩:=gw_small hn h2
  obtain ⟨p1,p2,p3,p4,p6,p7⟩:=h1
  obtain ⟨q1,q2,q3,q4,q6,q7⟩:=h2
  obtain ⟨i1,i2⟩:=lab_same c2 c3 d2 d3 (fun e3 e4=>⟨p4.one hf ⟨e3,e4⟩,q4.one hf ⟨e3,e4⟩⟩) e1
  rw [pre_same c1 d1 (fun e=>⟨(p1.2 e).1,(q1.2 e).1⟩) e0,i1,i2,toG_inj hf hn p6 q6 e2,toG_inj hf hn p7 q7 e3]
theorem gsub_nodes:∀ x:Gt,nodesT (toG f x)=(gSub f x).map (gBody f)
 | .nul=>rfl
 | .one _=>rfl
 | .node k t b lo hi=>by
  show ([40] ++ labG f t b ++ [32] ++ tx (toG f lo) ++ [32] ++ tx (toG f hi) ++ [41]) :: (nodesT (toG f lo) ++ nodesT (toG f hi))=_
  rw [gsub_nodes lo,gsub_nodes hi]
  show _=gBody f (.node (gKey f t) t b lo hi) :: ((gSub f lo ++ gSub f hi).map (gBody f))
  rw [List.map_append]
  rfl
theorem gkey_tag {t:Nat}:GTag f t (gKey f t) t:=by
 unfold gKey
 refine ⟨fun e=>?_,fun e=>?_⟩
 ·rw [if_pos e];exact ⟨Nat.le_refl _,Nat.le_refl _⟩
 ·rw [if_neg e];exact ⟨rfl,Nat.le_refl _⟩
theorem gsub_wt:∀ {x:Gt} {l:Nat},Gw f n x l→∀ y∈gSub f x,∃ t b lo hi,y=.node (gKey f t) t b lo hi∧l≤t∧Gw f n y t
 | .nul,_,_,y,hy=>by cases hy
 | .one _,_,_,y,hy=>by cases hy
 | .node k t b lo hi,l,h,y,hy=>by
  obtain ⟨h1,h2,h3,h4,h6,h7⟩:=h
  have hlt:l≤t:=by
   by_cases e:f=5
   ·have:=h1.1 e;omega
   ·exact (h1.2 e).2
  rcases List.mem_cons.1 hy with rfl | hy
  ·exact ⟨t,b,lo,hi,rfl,hlt,gkey_tag,h2,h3,h4,h6,h7⟩
  ·rcases List.mem_append.1 hy with hy | hy
   ·obtain ⟨t',b',lo',hi',e,g1,g2⟩:=gsub_wt h6 y hy
    exact ⟨t',b',lo',hi',e,by omega,g2⟩
   ·obtain ⟨t',b',lo',hi',e,g1,g2⟩:=gsub_wt h7 y hy
    exact ⟨t',b',lo',hi',e,by omega,g2⟩
theorem gsub_trans:∀ {x:Gt},z∈gSub f y→y∈gSub f x→z∈gSub f x
 | .nul,_,hy=>by cases hy
 | .one _,_,hy=>by cases hy
 | .node k t b lo hi,hz,hy=>by
  rcases List.mem_cons.1 hy with rfl | hy
  ·exact hz
  ·rcases List.mem_append.1 hy with hy | hy
   ·exact List.mem_cons_of_mem _ (List.mem_append_left _ (gsub_trans hz hy))
   ·exact List.mem_cons_of_mem _ (List.mem_append_right _ (gsub_trans hz hy))
theorem gbody_inj (hf:IsF f) (hn:n≤16) {t b t' b':Nat} {lo hi lo' hi':Gt} (hx:Gw f n (.node (gKey f t) t b lo hi) l) (hy:Gw f n (.node (gKey f t') t' b' lo' hi') m) (h:gBody f (.node (gKey f t) t b lo hi)=gBody f (.node (gKey f t') t' b' lo' hi')):Gt.node (gKey f t) t b lo hi=.node (gKey f t') t' b' lo' hi':=by
 obtain ⟨c1,c2,c3,_⟩:=gw_small hn hx
 obtain ⟨d1,d2,d3,_⟩:=gw_small hn hy
 obtain ⟨p1,p2,p3,p4,p6,p7⟩:=hx
 obtain ⟨q1,q2,q3,q4,q6,q7⟩:=hy
 have e:tx (.node [] (labG f t b) (toG f lo) (toG f hi)) ++ []=tx (.node [] (labG f t' b') (toG f lo') (toG f hi')) ++ []:=by
  rw [List.append_nil,List.append_nil];exact h
 have f1:Fine (.node [] (labG f t b) (toG f lo) (toG f hi)):=⟨(fun c hc=>by cases hc),lab_good c2 c3,fine_toG hn p6,fine_toG hn p7⟩
 have f2:Fine (.node [] (labG f t' b') (toG f lo') (toG f hi')):=⟨(fun c hc=>by cases hc),lab_good d2 d3,fine_toG hn q6,fine_toG hn q7⟩
 obtain ⟨e1,-⟩:=tx_inj _ _ f1 f2 [] [] (.inl rfl) (.inl rfl) e
 injection e1 with _ e1 e2 e3
 obtain ⟨i1,i2⟩:=lab_same c2 c3 d2 d3 (fun e3 e4=>⟨p4.one hf ⟨e3,e4⟩,q4.one hf ⟨e3,e4⟩⟩) e1
 rw [i1,i2,toG_inj hf hn p6 q6 e2,toG_inj hf hn p7 q7 e3]
def gWant (f:Nat) (x:Gt):List (List UInt8):=dd [] (pieces (tx (toG f x)))
theorem gwant_sub (hn:n≤16) (hx:Gw f n x l) (s:List UInt8):s∈gWant f x↔∃ y∈gSub f x,gBody f y=s:=by
 unfold gWant
 have:=pieces_tx (toG f x) (fine_toG hn hx) []
 rw [List.append_nil] at this
 rw [this,dd_mem,show pieces []=[] from rfl,List.append_nil,gsub_nodes]
 simp
theorem gbody_map (hf:IsF f) (hn:n≤16) (hx:Gw f n x l) {K:List Gt} (hK:K.Nodup) (hs:∀ y∈K,y∈gSub f x):(K.map (gBody f)).Nodup:=
 nodup_map K hK (fun y hy z hz e=>by
  obtain ⟨t,b,lo,hi,rfl,_,w1⟩:=gsub_wt hx y (hs y hy)
  obtain ⟨t',b',lo',hi',rfl,_,w2⟩:=gsub_wt hx z (hs z hz)
  exact gbody_inj hf hn w1 w2 e)
theorem gwant_all (hf:IsF f) (hn:n≤16) (hx:Gw f n x l) {K:List Gt} (hK:K.Nodup) (hs:∀ y,y∈K↔y∈gSub f x):(gWant f x).length=K.length:=by
 have a1:=nodup_le (K.map (gBody f)) (gWant f x) (gbody_map hf hn hx hK (fun y hy=>(hs y).1 hy)) (fun s h=>by
  obtain ⟨y,hy,e⟩:=List.mem_map.1 h
  exact (gwant_sub hn hx s).2 ⟨y,(hs y).1 hy,e⟩)
 have a2:=nodup_le (gWant f x) (K.map (gBody f)) (dd_nodup _ _ List.nodup_nil) (fun s h=>by
  obtain ⟨y,hy,e⟩:=(gwant_sub hn hx s).1 h
  exact List.mem_map.2 ⟨y,(hs y).2 hy,e⟩)
 rw [List.length_map] at a1 a2
 omega
end
section
variable {f:Nat} {a:Ab} {e:Nat × Nat} {x y:Gt} {l u:Nat}
theorem Gu.key (h:Gu f a e x) {r:Rec} (hr:nodeOf a.sl e.2=some r):∃ lo hi,x=.node e.1 r.top r.bot lo hi∧.node (gKey f r.top) r.top r.bot lo hi∈gSub f x∧Gu f a (r.lt,r.la) lo∧Gu f a (r.ht,r.ha) hi∧Gu f a (gKey f r.top,e.2) (.node (gKey f r.top) r.top r.bot lo hi):=by
 obtain ⟨lo,hi,rfl,h2,h3,h4⟩:=h.at hr
 exact ⟨lo,hi,rfl,List.mem_cons_self,h3,h4,.node hr h2 h3 h4⟩
theorem greached_sub (h:Gu f a e x) {id:Nat} (hr:Reached a.sl (fun z=>z=e.2) id):∃ r,nodeOf a.sl id=some r∧∃ y∈gSub f x,Gu f a (gKey f r.top,id) y:=by
 induction hr with
 | @base z r h1 h2=>
  have h1':z=e.2:=h1
  subst h1'
  obtain ⟨lo,hi,_,g1,_,_,g4⟩:=h.key h2
  exact ⟨r,h2,_,g1,g4⟩
 | @lo z r q _ h2 h3 ih=>
  obtain ⟨r',hr',y,hy,uy⟩:=ih
  rw [h2] at hr'
  injection hr' with hr'
  subst hr'
  obtain ⟨lo,hi,rfl,_,u1,u2,_⟩:=uy.key h2
  obtain ⟨lo',hi',_,g1,_,_,g4⟩:=u1.key h3
  refine ⟨q,h3,_,gsub_trans (y:=.node (gKey f r.top) r.top r.bot lo hi) ?_ hy,g4⟩
  exact List.mem_cons_of_mem _ (List.mem_append_left _ g1)
 | @hi z r q _ h2 h3 ih=>
  obtain ⟨r',hr',y,hy,uy⟩:=ih
  rw [h2] at hr'
  injection hr' with hr'
  subst hr'
  obtain ⟨lo,hi,rfl,_,u1,u2,_⟩:=uy.key h2
  obtain ⟨lo',hi',_,g1,_,_,g4⟩:=u2.key h3
  refine ⟨q,h3,_,gsub_trans (y:=.node (gKey f r.top) r.top r.bot lo hi) ?_ hy,g4⟩
  exact List.mem_cons_of_mem _ (List.mem_append_right _ g1)
theorem greach_via {S:Nat→Prop} {r:Rec} {v:Nat} (hu:Reached a.sl S u) (hr:nodeOf a.sl u=some r) (hv:v=r.la∨v=r.ha) {id:Nat} (h:Reached a.sl (fun z=>z=v) id):Reached a.sl S id:=
 h.trans (fun z hz=>by
  have hz':z=v:=hz
  subst hz'
  cases hn:nodeOf a.sl z with
  | none=>exact .inr rfl
  | some q=>
   rcases hv with rfl | rfl
   ·exact .inl (.lo hu hr hn)
   ·exact .inl (.hi hu hr hn))
theorem gsub_reached:∀ {x:Gt} {e:Nat × Nat},Gu f a e x→∀ y∈gSub f x,∃ id k,Reached a.sl (fun z=>z=e.2) id∧Gu f a (k,id) y
 | .nul,_,_,y,hy=>by cases hy
 | .one _,_,_,y,hy=>by cases hy
 | .node k t b lo hi,e,h,y,hy=>by
  obtain ⟨r,h0,h1,h2,rfl,rfl,h5,h6⟩:=h.open
  have hbase:Reached a.sl (fun z=>z=e.2) e.2:=.base rfl h1
  rcases List.mem_cons.1 hy with rfl | hy
  ·exact ⟨e.2,gKey f r.top,hbase,.node h1 h2 h5 h6⟩
  ·rcases List.mem_append.1 hy with hy | hy
   ·obtain ⟨id,k',g1,g2⟩:=gsub_reached h5 y hy
    exact ⟨id,k',greach_via hbase h1 (.inl rfl) g1,g2⟩
   ·obtain ⟨id,k',g1,g2⟩:=gsub_reached h6 y hy
    exact ⟨id,k',greach_via hbase h1 (.inr rfl) g1,g2⟩
theorem greached_count (hf:IsF f) (ha:Hale a) (h:Gu f a e x) (hw:Gw f a.n x l) {K:List Nat} (hK:K.Nodup) (hin:∀ id,id∈K↔Reached a.sl (fun z=>z=e.2) id):K.length=(gWant f x).length:=by
 have hn:=ha.ok.n
 have hch:∀ id∈K,∃ s,∃ y∈gSub f x,(∃ k,Gu f a (k,id) y)∧gBody f y=s:=fun id hid=>by
  obtain ⟨r,_,y,hy,uy⟩:=greached_sub h ((hin id).1 hid)
  exact ⟨_,y,hy,⟨_,uy⟩,rfl⟩
 let g:Nat→List UInt8:=fun id=>@dite _ (∃ s,∃ y∈gSub f x,(∃ k,Gu f a (k,id) y)∧gBody f y=s) (Classical.propDecidable _) (fun h=>Classical.choose h) (fun _=>[])
 have hg:∀ id∈K,∃ y∈gSub f x,(∃ k,Gu f a (k,id) y)∧gBody f y=g id:=fun id hid=>by
  have h1:=hch id hid
  have e1:g id=Classical.choose h1:=dif_pos h1
  rw [e1]
  exact Classical.choose_spec h1
 have hbi:∀ y∈gSub f x,∀ z∈gSub f x,gBody f y=gBody f z→y=z:=fun y hy z hz he=>by
  obtain ⟨t,b,lo,hi,rfl,_,w1⟩:=gsub_wt hw y hy
  obtain ⟨t',b',lo',hi',rfl,_,w2⟩:=gsub_wt hw z hz
  exact gbody_inj hf hn w1 w2 he
 have a1:=nodup_le (K.map g) (gWant f x) (nodup_map K hK (fun i hi j hj he=>by
  obtain ⟨y1,g1,⟨k1,g2⟩,g3⟩:=hg i hi
  obtain ⟨y2,k1',⟨k2,k3⟩,k4⟩:=hg j hj
  have:=hbi y1 g1 y2 k1' (by rw [g3,k4,he])
  subst this
  have:=g2.inj ha k3
  injection this)) (fun s hs=>by
  obtain ⟨id,hid,e1⟩:=List.mem_map.1 hs
  obtain ⟨y,g1,g2,g3⟩:=hg id hid
  exact (gwant_sub hn hw s).2 ⟨y,g1,by rw [g3,e1]⟩)
 have a2:=nodup_le (gWant f x) (K.map g) (dd_nodup _ _ List.nodup_nil) (fun s hs=>by
  obtain ⟨y,hy,e1⟩:=(gwant_sub hn hw s).1 hs
  obtain ⟨id,k,g1,g2⟩:=gsub_reached h y hy
  have hid:=(hin id).2 g1
  obtain ⟨y2,k1,⟨k',k2⟩,k3⟩:=hg id hid
  refine List.mem_map.2 ⟨id,hid,?_⟩
  obtain ⟨t,b,lo,hi,rfl,_,_⟩:=gsub_wt hw y hy
  obtain ⟨t',b',lo',hi',rfl,_,_⟩:=gsub_wt hw y2 k1
  obtain ⟨r,q0,q1,q2,q3,q4,q5,q6⟩:=g2.open
  obtain ⟨r',p0,p1,p2,p3,p4,p5,p6⟩:=k2.open
  have q1':nodeOf a.sl id=some r:=q1
  have p1':nodeOf a.sl id=some r':=p1
  rw [q1'] at p1'
  injection p1' with p1'
  subst p1'
  rw [← k3,← e1,← p3,← p4,q3,q4,p5.det q5,p6.det q6])
 rw [List.length_map] at a1 a2
 omega
end
end StoreMath
namespace Go.Proofs.YtdniokdgghpkbaaGreatDoor
open Go.RowKit Sq StoreMath ArenaMath IndexMath MarkMath
set_option maxHeartbeats 4000000
set_option maxRecDepth 100000
theorem szR_is {f l:Nat} {a:Ab} {e:Nat × Nat} {x:Gt} (hf:IsF f) (ha:Hale a) (h:Gu f a e x) (hw:Gw f a.n x l):szR a e.2=(gWant f x).length:=by
 unfold szR rl
 rw [List.length_map]
 refine greached_count hf ha h hw (List.nodup_range.filter _) (fun id=>?_)
 rw [List.mem_filter,List.mem_range,pR_iff]
 constructor
 ·exact fun h=>h.2
 ·intro h
  obtain ⟨r,hr⟩:=h.node
  exact ⟨(node_lt hr).2,h⟩
theorem Run.grown {w wr wr':World} {C X Y:Nat→Prop} {g:Nat} {a:Ab} {o:Option Nat} (h:Run w C g a X wr) (hg:wr.grownBy wr' o) (ho:∀ k,o=some k→X k∧w.heap.size≤k) (hY:∀ k,Y k→(X k∨wr.heap.size≤k)∧k < wr'.heap.size):Run w C g a Y wr':=by
 obtain ⟨C',h1,h2,h3,h4⟩:=h
 have hin:=h1.inside
 refine ⟨C',h1.keep (fun j hj=>hg.block j (hin j hj) (fun e=>(h4 j (ho j e.symm).1).1 hj)),⟨hg.os.trans h2.os,hg.tape.trans h2.tape,hg.output.trans h2.output,Nat.le_trans h2.size hg.size,fun k hk hC=>(hg.block k (Nat.lt_of_lt_of_le hk h2.size) (fun e=>by have:=(ho k e.symm).2;omega)).trans (h2.block k hk hC)⟩,h3,fun k hk=>⟨fun hc=>?_,(hY k hk).2⟩⟩
 rcases (hY k hk).1 with hx | hx
 ·exact (h4 k hx).1 hc
 ·have:=hin k hc
  omega
end Go.Proofs.YtdniokdgghpkbaaGreatDoor
namespace StoreMath
open ArenaMath IndexMath MarkMath Go.Proofs.YtdniokdgghpkbaaGreatDoor.Nd.NodeMath Go.Proofs.YtdniokdgghpkbaaGreatDoor
def bdG (f:Nat) (a:Ab):Nat→Nat→List Bool→Ab × (Nat × Nat) × Nat
 | 0,l,t=>(a,gFin f l (t.headD false),0)
 | k+1,l,t=>
  if (bdG f a k (l+1) (t.take (2 ^ k))).2.2 ≠ 0 then ((bdG f a k (l+1) (t.take (2 ^ k))).1,(0,0),(bdG f a k (l+1) (t.take (2 ^ k))).2.2)
  else if (bdG f (bdG f a k (l+1) (t.take (2 ^ k))).1 k (l+1) (t.drop (2 ^ k))).2.2 ≠ 0 then ((bdG f (bdG f a k (l+1) (t.take (2 ^ k))).1 k (l+1) (t.drop (2 ^ k))).1,(0,0),(bdG f (bdG f a k (l+1) (t.take (2 ^ k))).1 k (l+1) (t.drop (2 ^ k))).2.2)
  else mkG f (bdG f (bdG f a k (l+1) (t.take (2 ^ k))).1 k (l+1) (t.drop (2 ^ k))).1 l (bdG f a k (l+1) (t.take (2 ^ k))).2.1.1 (bdG f a k (l+1) (t.take (2 ^ k))).2.1.2 (bdG f (bdG f a k (l+1) (t.take (2 ^ k))).1 k (l+1) (t.drop (2 ^ k))).2.1.1 (bdG f (bdG f a k (l+1) (t.take (2 ^ k))).1 k (l+1) (t.drop (2 ^ k))).2.1.2
theorem bdG_succ (f:Nat) (a:Ab) (k l:Nat) (t:List Bool) {b c:Ab} {lo hi:Nat × Nat} {p q:Nat} (h1:bdG f a k (l+1) (t.take (2 ^ k))=(b,lo,p)) (h2:bdG f b k (l+1) (t.drop (2 ^ k))=(c,hi,q)) :
  bdG f a (k+1) l t=if p ≠ 0 then (b,(0,0),p) else if q ≠ 0 then (c,(0,0),q) else mkG f c l lo.1 lo.2 hi.1 hi.2:=by
 unfold bdG
 rw [h1]
 simp only
 rw [h2]
theorem bdG_spec {f:Nat} (hf:IsF f):∀ (k l:Nat) (a:Ab) (t:List Bool),Hale a→l+k=a.n→t.length=2 ^ k →
  Hale (bdG f a k l t).1∧Ext a (bdG f a k l t).1∧((bdG f a k l t).2.2=0→Gu f (bdG f a k l t).1 (bdG f a k l t).2.1 (gmd f k l t)) ∧
  ((bdG f a k l t).2.2 ≠ 0→(bdG f a k l t).2.2=6∧(bdG f a k l t).2.1=(0,0)∧freeP (bdG f a k l t).1=0) ∧
  cnt (bdG f a k l t).1+freeP (bdG f a k l t).1=cnt a+freeP a∧freeP a+1≤freeP (bdG f a k l t).1+2 ^ k∧freeP (bdG f a k l t).1≤freeP a∧(2 ^ k≤freeP a+1→(bdG f a k l t).2.2=0):=by
 intro k
 induction k with
 | zero=>
  intro l a t ha hl ht
  match t,ht with
  | [v],_=>
   show Hale a∧Ext a a∧(0=0→Gu f a (gFin f l v) (gEnd f l v))∧(0 ≠ 0→_)∧cnt a+freeP a=cnt a+freeP a∧freeP a+1≤freeP a+2 ^ 0∧freeP a≤freeP a∧(_→0=0)
   exact ⟨ha,Ext.refl a,fun _=>Gu.fin v l,fun h=>absurd rfl h,rfl,Nat.le_refl _,Nat.le_refl _,fun _=>rfl⟩
 | succ k ih=>
  intro l a t ha hl ht
  have hp:2 ^ (k+1)=2 ^ k+2 ^ k:=by omega
  obtain ⟨ht1,ht2⟩:=ghalf_len ht
  have i1:=ih (l+1) a (t.take (2 ^ k)) ha (by omega) ht1
  generalize hq1:bdG f a k (l+1) (t.take (2 ^ k))=q1 at i1
  obtain ⟨b,lo,p⟩:=q1
  simp only at i1
  obtain ⟨gb,xb,rb,nb,cb,fb,ub,ob⟩:=i1
  have i2:=ih (l+1) b (t.drop (2 ^ k)) gb (by rw [xb.n];omega) ht2
  generalize hq2:bdG f b k (l+1) (t.drop (2 ^ k))=q2 at i2
  obtain ⟨c,hi,q⟩:=q2
  simp only at i2
  obtain ⟨gc,xc,rc,nc,cc,fc,uc,oc⟩:=i2
  rw [bdG_succ f a k l t hq1 hq2]
  have hpos:0 < 2 ^ k:=Nat.two_pow_pos k
  by_cases hp0:p=0
  ·subst hp0
   rw [if_neg (fun h=>h rfl)]
   by_cases hq0:q=0
   ·subst hq0
    rw [if_neg (fun h=>h rfl)]
    have u1:=(rb rfl).ext xc
    have u2:=rc rfl
    have hcn:c.n=a.n:=by rw [xc.n,xb.n]
    have w1:Gw f c.n (gmd f k (l+1) (t.take (2 ^ k))) (l+1):=gmd_wt hf k (l+1) _ (by omega)
    have w2:Gw f c.n (gmd f k (l+1) (t.drop (2 ^ k))) (l+1):=gmd_wt hf k (l+1) _ (by omega)
    have hm:=gmakes hf gc (show l < c.n by omega) u1 w1 u2 w2
    generalize mkG f c l lo.1 lo.2 hi.1 hi.2=z at hm ⊢
    obtain ⟨d,e,er⟩:=z
    simp only at hm ⊢
    cases hm with
    | yes rd=>exact ⟨gc,xb.trans xc,fun _=>rd,fun h=>absurd rfl h,by omega,by omega,by omega,fun _=>rfl⟩
    | new gd xd rd _ _ _ _ _ _ hfr hcn2=>exact ⟨gd,(xb.trans xc).trans xd,fun _=>rd,fun h=>absurd rfl h,by omega,by omega,by omega,fun _=>rfl⟩
    | full h0 _ _=>exact ⟨gc,xb.trans xc,(fun h=>by cases h),fun _=>⟨rfl,rfl,h0⟩,by omega,by omega,by omega,(fun h=>by omega)⟩
   ·rw [if_pos hq0]
    obtain ⟨n1,n2,n3⟩:=nc hq0
    exact ⟨gc,xb.trans xc,fun h=>absurd h hq0,fun _=>⟨n1,rfl,n3⟩,by show cnt c+freeP c=_;omega,by show _≤freeP c+_;omega,by show freeP c≤_;omega,fun h=>absurd (oc (by omega)) hq0⟩
  ·rw [if_pos hp0]
   obtain ⟨n1,n2,n3⟩:=nb hp0
   exact ⟨gb,xb,fun h=>absurd h hp0,fun _=>⟨n1,rfl,n3⟩,by show cnt b+freeP b=_;omega,by show _≤freeP b+_;omega,by show freeP b≤_;omega,fun h=>absurd (ob (by omega)) hp0⟩
end StoreMath
