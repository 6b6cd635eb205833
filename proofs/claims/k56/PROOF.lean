import PyProof.Rows.All
import Wide.All
import OpenK.AllK
import Wide.FinOn
import Lean
import PyProof.EqAt
import PyProof.EqKinds
import PyProof.TupleCall
import PyProof.CompFree
import PyProof.CollectWalk
import PyProof.Rows.SetFrom
import PyProof.Rows.SortShell
import PySem.Challenge.RW_allhits_k56_whole_duals_at_a_desk
set_option Elab.async false
set_option linter.all false
set_option maxRecDepth 100000
namespace Fam
def sub (b a:Nat):Prop:=a&&&b=b
instance (b a:Nat):Decidable (sub b a):=inferInstanceAs (Decidable (a&&&b=b))
theorem qbe {b a:Nat}:sub b a↔∀k,b.testBit k=true→a.testBit k=true:=by
 unfold sub
 constructor
 · intro h k hk
   rw [←h,Nat.testBit_and,Bool.and_eq_true] at hk
   exact hk.1
 · intro h
   refine Nat.eq_of_testBit_eq fun k=>?_
   rw [Nat.testBit_and]
   cases hb:b.testBit k
   · simp
   · simp [h k hb]
theorem qdB (a:Nat):sub a a:=Nat.and_self a
theorem qck {a b c:Nat} (h1:sub a b) (h2:sub b c):sub a c:=qbe.mpr fun k hk=>qbe.mp h2 k (qbe.mp h1 k hk)
theorem sub_le {a b:Nat} (h:sub b a):b≤a:=by
 have:a&&&b≤a:=Nat.and_le_left
 rw [h] at this
 exact this
theorem qgp {a b:Nat} (h1:sub a b) (h2:sub b a):a=b:=Nat.le_antisymm (sub_le h1) (sub_le h2)
def mt (a b:Nat):Prop:=a&&&b≠0
instance (b a:Nat):Decidable (mt b a):=inferInstanceAs (Decidable (b&&&a≠0))
theorem mt_iff {a b:Nat}:mt a b↔∃k,a.testBit k=true∧b.testBit k=true:=by
 unfold mt
 constructor
 · intro h
   obtain ⟨k,hk⟩:=Nat.exists_testBit_of_ne_zero h
   rw [Nat.testBit_and,Bool.and_eq_true] at hk
   exact ⟨k,hk⟩
 · rintro ⟨k,h1,h2⟩ e
   have:=congrArg (fun z=>Nat.testBit z k) e
   simp [Nat.testBit_and,h1,h2] at this
theorem qcd {a b:Nat}:mt a b↔mt b a:=by unfold mt;rw [Nat.and_comm]
theorem qlb {a a' b:Nat} (h:sub a a') (q:mt a b):mt a' b:=by
 obtain ⟨k,h1,h2⟩:=mt_iff.mp q
 exact mt_iff.mpr ⟨k,qbe.mp h k h1,h2⟩
theorem qmW {n a k:Nat} (h:a<2^n) (hk:n≤k):a.testBit k=false:=Nat.testBit_lt_two_pow (Nat.lt_of_lt_of_le h (Nat.pow_le_pow_right (by decide) hk))
theorem qkB {n a k:Nat} (h:a<2^n) (hk:a.testBit k=true):k<n:=by
 rcases Nat.lt_or_ge k n with z | z
 · exact z
 · rw [qmW h z] at hk;cases hk
def rst (m a:Nat):Nat:=2^m-(a+1)
theorem qct {m a:Nat} (h:a<2^m) (k:Nat):(rst m a).testBit k=(decide (k<m)&&!a.testBit k):=Nat.testBit_two_pow_sub_succ h k
theorem rst_lt (m a:Nat):rst m a<2^m:=by
 have:=Nat.two_pow_pos m
 unfold rst
 omega
theorem rst_rst {m a:Nat} (h:a<2^m):rst m (rst m a)=a:=by unfold rst;omega
theorem qd1 {m a b:Nat} (ha:a<2^m) (hb:b<2^m):sub a (rst m b)↔¬mt a b:=by
 rw [qbe,mt_iff]
 constructor
 · rintro h ⟨k,h1,h2⟩
   have:=h k h1
   rw [qct hb,h2] at this
   simp at this
 · intro h k hk
   rw [qct hb]
   have hm:=qkB ha hk
   cases hb':b.testBit k
   · simp [hm]
   · exact absurd ⟨k,hk,hb'⟩ h
def less (a k:Nat):Nat:=a-2^k
theorem xor_bit {a k:Nat} (h:a.testBit k=true):a=(a ^^^ 2^k)+2^k:=by
 have e:(a ^^^ 2^k)&&&2^k=0:=by
   refine Nat.eq_of_testBit_eq fun j=>?_
   rw [Nat.testBit_and,Nat.testBit_xor,Nat.testBit_two_pow,Nat.zero_testBit]
   by_cases c:k=j
   · subst c;simp [h]
   · simp [c]
 have key:∀n x y:Nat,x<2^n→x&&&y=0→x+y=x|||y:=by
   intro n
   induction n with
   | zero =>
     intro x y hx _
     have:x=0:=by omega
     subst this
     simp
   | succ n ih =>
     intro x y hx h
     have q:=ih (x/2) (y/2) (by rw [Nat.pow_succ] at hx;omega) (by rw [←Nat.and_div_two,h])
     have e1:(x|||y)/2=x/2|||y/2:=Nat.or_div_two
     have m2:x%2=0∨y%2=0:=by
       have:=congrArg (fun z=>Nat.testBit z 0) h
       simp only [Nat.testBit_and,Nat.testBit_zero,Nat.zero_testBit] at this
       rcases Nat.mod_two_eq_zero_or_one x with z1 | z1<;>rcases Nat.mod_two_eq_zero_or_one y with z2 | z2<;>simp [z1,z2] at this ⊢
     have m1:(x|||y)%2=x%2+y%2:=by
       have:=Nat.testBit_or x y 0
       simp only [Nat.testBit_zero] at this
       rcases Nat.mod_two_eq_zero_or_one (x|||y) with z | z<;>rcases Nat.mod_two_eq_zero_or_one x with z1 | z1<;>rcases Nat.mod_two_eq_zero_or_one y with z2 | z2<;>simp [z,z1,z2] at this m2 ⊢
     rw [←e1] at q
     omega
 have:=key (a ^^^ 2^k) (a ^^^ 2^k) (2^k) Nat.lt_two_pow_self e
 rw [this]
 refine Nat.eq_of_testBit_eq fun j=>?_
 rw [Nat.testBit_or,Nat.testBit_xor,Nat.testBit_two_pow]
 by_cases c:k=j
 · subst c;simp [h]
 · simp [c]
theorem less_bit {a k:Nat} (h:a.testBit k=true) (j:Nat):(less a k).testBit j=(a.testBit j&&decide (j≠k)):=by
 have e:less a k=a ^^^ 2^k:=by
   have:=xor_bit h
   unfold less
   omega
 rw [e,Nat.testBit_xor,Nat.testBit_two_pow]
 by_cases c:k=j
 · subst c;simp [h]
 · simp [c,Ne.symm c]
theorem qph {a k:Nat} (h:a.testBit k=true):less a k<a:=by
 have:=xor_bit h
 have:=Nat.two_pow_pos k
 unfold less
 omega
theorem qjt {a k:Nat} (h:a.testBit k=true):sub (less a k) a:=qbe.mpr fun j hj=>by
 rw [less_bit h,Bool.and_eq_true] at hj
 exact hj.1
theorem qm6 {a b k:Nat} (h:sub b a) (hk:a.testBit k=true) (hb:b.testBit k=false):sub b (less a k):=qbe.mpr fun j hj=>by
 rw [less_bit hk,qbe.mp h j hj,Bool.true_and,decide_eq_true_eq]
 intro e
 rw [e,hb] at hj
 cases hj
theorem qlM {a b:Nat} (h:sub b a):b=a∨∃k,a.testBit k=true∧b.testBit k=false∧sub b (less a k):=by
 by_cases c:∃k,a.testBit k=true∧b.testBit k=false
 · obtain ⟨k,h1,h2⟩:=c
   exact .inr ⟨k,h1,h2,qm6 h h1 h2⟩
 · left
   refine Nat.eq_of_testBit_eq fun k=>?_
   cases hb:b.testBit k with
   | true=>exact (qbe.mp h k hb).symm
   | false =>
     cases ha:a.testBit k with
     | false=>rfl
     | true=>exact absurd ⟨k,ha,hb⟩ c
def pick (P:Nat→Bool) (L:List Nat):List Nat:=L.foldl (fun found a=>if (!(found.any fun b=>decide (sub b a))&&P a)=true then found++[a] else found) []
def qe3 (P:Nat→Bool) (L:List Nat) (a:Nat):Prop:=P a=true∧∀b∈L,P b=true→sub b a→b=a
instance (P:Nat→Bool) (L:List Nat) (a:Nat):Decidable (qe3 P L a):=inferInstanceAs (Decidable (_∧_))
theorem qdC (P:Nat→Bool) (L:List Nat):∀(n b:Nat),b≤n→b∈L→P b=true→∃c∈L,qe3 P L c∧sub c b
 | n,b,hn,hb,hP=>by
   by_cases c:∃d∈L,P d=true∧sub d b∧d≠b
   · obtain ⟨d,hd,hPd,hs,hne⟩:=c
     have hlt:d<b:=Nat.lt_of_le_of_ne (sub_le hs) hne
     match n with
     | 0=>omega
     | n+1 =>
       obtain ⟨e,he,hm,hse⟩:=qdC P L n d (by omega) hd hPd
       exact ⟨e,he,hm,qck hse hs⟩
   · refine ⟨b,hb,⟨hP,fun d hd hPd hs=>?_⟩,qdB b⟩
     by_cases e:d=b
     · exact e
     · exact absurd ⟨d,hd,hPd,hs,e⟩ c
theorem qi6 {p:List Nat→Prop} (h0:p []) (h1:∀L a,p L→p (L++[a])) (L:List Nat):p L:=by
 have:∀M:List Nat,p M.reverse:=by
   intro M
   induction M with
   | nil=>exact h0
   | cons a M ih=>rw [List.reverse_cons];exact h1 _ _ ih
 have:=this L.reverse
 rwa [List.reverse_reverse] at this
theorem pick_snoc (P:Nat→Bool) (L:List Nat) (a:Nat):pick P (L++[a])=if (!((pick P L).any fun b=>decide (sub b a))&&P a)=true then pick P L++[a] else pick P L:=by
 unfold pick
 rw [List.foldl_append]
 rfl
theorem qlP (P:Nat→Bool) (L:List Nat) (hL:L.Pairwise (· < ·)):pick P L=L.filter fun a=>decide (qe3 P L a):=by
 revert hL
 refine qi6 (p:=fun L=>L.Pairwise (· < ·)→pick P L=L.filter fun a=>decide (qe3 P L a)) (fun _=>rfl) (fun L a ih hL=>?_) L
 obtain ⟨hL1,_,hlt⟩:=List.pairwise_append.mp hL
 have hlt:∀x∈L,x<a:=fun x hx=>hlt x hx a (by simp)
 have ih:=ih hL1
 have e1:L.filter (fun x=>decide (qe3 P (L++[a]) x))=L.filter fun x=>decide (qe3 P L x):=by
   refine List.filter_congr fun x hx=>?_
   rw [decide_eq_decide]
   constructor
   · rintro ⟨h1,h2⟩
     exact ⟨h1,fun b hb=>h2 b (List.mem_append_left _ hb)⟩
   · rintro ⟨h1,h2⟩
     refine ⟨h1,fun b hb hP hs=>?_⟩
     rcases List.mem_append.mp hb with z | z
     · exact h2 b z hP hs
     · have:b=a:=by simpa using z
       subst this
       have:=sub_le hs
       have:=hlt x hx
       omega
 rw [pick_snoc,List.filter_append,e1,←ih]
 have key:(!((pick P L).any fun b=>decide (sub b a))&&P a)=decide (qe3 P (L++[a]) a):=by
   rw [Bool.eq_iff_iff,Bool.and_eq_true,Bool.not_eq_true',decide_eq_true_eq]
   constructor
   · rintro ⟨h1,h2⟩
     refine ⟨h2,fun b hb hP hs=>?_⟩
     rcases List.mem_append.mp hb with z | z
     · exfalso
       obtain ⟨c,hc,hm,hsc⟩:=qdC P L b b (Nat.le_refl _) z hP
       have hin:c∈pick P L:=by rw [ih];exact List.mem_filter.mpr ⟨hc,decide_eq_true hm⟩
       have:=List.any_eq_false.mp h1 c hin
       exact this (decide_eq_true (qck hsc hs))
     · simpa using z
   · rintro ⟨h1,h2⟩
     refine ⟨?_,h1⟩
     rw [List.any_eq_false]
     intro c hc hd
     rw [ih] at hc
     obtain ⟨c1,c2⟩:=List.mem_filter.mp hc
     have:=h2 c (List.mem_append_left _ c1) (of_decide_eq_true c2).1 (of_decide_eq_true hd)
     have:=hlt c c1
     omega
 rw [key]
 by_cases c:qe3 P (L++[a]) a
 · rw [if_pos (decide_eq_true c)]
   simp [c]
 · rw [if_neg (by simpa using c)]
   simp [c]
theorem qeN {P:Nat→Bool} {L:List Nat} (hL:L.Pairwise (· < ·)) {a:Nat}:a∈pick P L↔a∈L∧qe3 P L a:=by
 rw [qlP P L hL,List.mem_filter,decide_eq_true_eq]
theorem qcO {P:Nat→Bool} {L:List Nat} (hL:L.Pairwise (· < ·)):(pick P L).Pairwise (· < ·):=by
 rw [qlP P L hL]
 exact hL.sublist List.filter_sublist
theorem pick_len (P:Nat→Bool) (L:List Nat):(pick P L).length≤L.length:=by
 refine qi6 (p:=fun L=>(pick P L).length≤L.length) (Nat.le_refl _) (fun L a ih=>?_) L
 rw [pick_snoc]
 split
 · simp;exact ih
 · simp;omega
theorem rise_ext:∀{a b:List Nat},a.Pairwise (· < ·)→b.Pairwise (· < ·)→(∀x,x∈a↔x∈b)→a=b
 | [],[],_,_,_=>rfl
 | [],y::b,_,_,h=>absurd ((h y).mpr List.mem_cons_self) (by simp)
 | x::a,[],_,_,h=>absurd ((h x).mp List.mem_cons_self) (by simp)
 | x::a,y::b,ha,hb,h=>by
   obtain ⟨a1,a2⟩:=List.pairwise_cons.mp ha
   obtain ⟨b1,b2⟩:=List.pairwise_cons.mp hb
   have e:x=y:=by
     rcases List.mem_cons.mp ((h x).mp List.mem_cons_self) with z | z
     · exact z
     · rcases List.mem_cons.mp ((h y).mpr List.mem_cons_self) with q | q
       · exact q.symm
       · have:=b1 x z
         have:=a1 y q
         omega
   subst e
   congr 1
   refine rise_ext a2 b2 fun z=>?_
   constructor
   · intro hz
     rcases List.mem_cons.mp ((h z).mp (List.mem_cons_of_mem _ hz)) with q | q
     · have:=a1 z hz;omega
     · exact q
   · intro hz
     rcases List.mem_cons.mp ((h z).mpr (List.mem_cons_of_mem _ hz)) with q | q
     · have:=b1 z hz;omega
     · exact q
def hitP (fs:List Nat) (a:Nat):Bool:=fs.all fun b=>decide (mt a b)
theorem hitP_iff {fs:List Nat} {a:Nat}:hitP fs a=true↔∀b∈fs,mt a b:=by
 unfold hitP
 rw [List.all_eq_true]
 simp only [decide_eq_true_eq]
theorem qhh {fs:List Nat} {a b:Nat} (h:sub b a) (q:hitP fs b=true):hitP fs a=true:=hitP_iff.mpr fun c hc=>qlb h (hitP_iff.mp q c hc)
def hits (m:Nat) (fs:List Nat):List Nat:=pick (hitP fs) (List.range (2^m))
theorem mem_hits {m:Nat} {fs:List Nat} {a:Nat}:a∈hits m fs↔a<2^m∧hitP fs a=true∧∀b,b<2^m→hitP fs b=true→sub b a→b=a:=by
 unfold hits
 rw [qeN List.pairwise_lt_range,List.mem_range]
 unfold qe3
 simp only [List.mem_range]
theorem hits_rise (m:Nat) (fs:List Nat):(hits m fs).Pairwise (· < ·):=qcO List.pairwise_lt_range
theorem qf6 {m:Nat} {fs:List Nat} {a:Nat} (ha:a<2^m) (h:hitP fs a=true):∃c∈hits m fs,sub c a:=by
 obtain ⟨c,hc,hm,hs⟩:=qdC (hitP fs) (List.range (2^m)) a a (Nat.le_refl _) (List.mem_range.mpr ha) h
 exact ⟨c,(qeN List.pairwise_lt_range).mpr ⟨hc,hm⟩,hs⟩
theorem qok {m a b:Nat} (h:sub b a) (ha:a<2^m):b<2^m:=Nat.lt_of_le_of_lt (sub_le h) ha
theorem hit_less {m:Nat} {fs:List Nat} {a:Nat} (ha:a<2^m):a∈hits m fs↔hitP fs a=true∧∀k,a.testBit k=true→hitP fs (less a k)=false:=by
 rw [mem_hits]
 constructor
 · rintro ⟨_,h1,h2⟩
   refine ⟨h1,fun k hk=>?_⟩
   cases hp:hitP fs (less a k) with
   | false=>rfl
   | true =>
     have:=h2 (less a k) (qok (qjt hk) ha) hp (qjt hk)
     have:=qph hk
     omega
 · rintro ⟨h1,h2⟩
   refine ⟨ha,h1,fun b hb hp hs=>?_⟩
   rcases qlM hs with e | ⟨k,hk,_,hl⟩
   · exact e
   · have:=qhh hl hp
     rw [h2 k hk] at this
     cases this
def mins (L:List Nat):List Nat:=pick (fun _=>true) L
theorem qcp {L:List Nat} (hL:L.Pairwise (· < ·)) {a:Nat}:a∈mins L↔a∈L∧∀b∈L,sub b a→b=a:=by
 unfold mins
 rw [qeN hL]
 unfold qe3
 simp
theorem qkf {L:List Nat} (hL:L.Pairwise (· < ·)) {b:Nat} (hb:b∈L):∃c∈mins L,sub c b:=by
 obtain ⟨c,hc,hm,hs⟩:=qdC (fun _=>true) L b b (Nat.le_refl _) hb rfl
 exact ⟨c,(qeN hL).mpr ⟨hc,hm⟩,hs⟩
theorem hits_hits {m:Nat} {fs:List Nat} (hr:fs.Pairwise (· < ·)) (hb:∀b∈fs,b<2^m):hits m (hits m fs)=mins fs:=by
 refine rise_ext (hits_rise _ _) (qcO hr) fun a=>?_
 rw [qcp hr]
 -- each set of the family meets all hits
 have meet:∀f∈fs,hitP (hits m fs) f=true:=fun f hf=>hitP_iff.mpr fun h hh=>qcd.mp (hitP_iff.mp (mem_hits.mp hh).2.1 f hf)
 -- what meets all hits holds a set of the family
 have hold:∀t,t<2^m→hitP (hits m fs) t=true→∃f∈fs,sub f t:=fun t ht hp=>by
   apply Classical.byContradiction
   intro hn
   have:hitP fs (rst m t)=true:=hitP_iff.mpr fun f hf=>by
     apply Classical.byContradiction
     intro hm
     have hs:sub f (rst m (rst m t)):=(qd1 (hb f hf) (rst_lt m t)).mpr fun z=>hm (qcd.mp z)
     rw [rst_rst ht] at hs
     exact hn ⟨f,hf,hs⟩
   obtain ⟨c,hc,hs⟩:=qf6 (rst_lt m t) this
   exact (qd1 (qok hs (rst_lt m t)) ht).mp hs (qcd.mp (hitP_iff.mp hp c hc))
 constructor
 · intro ha
   obtain ⟨h1,h2,h3⟩:=mem_hits.mp ha
   obtain ⟨f,hf,hs⟩:=hold a h1 h2
   have e:=h3 f (hb f hf) (meet f hf) hs
   subst e
   refine ⟨hf,fun b hbm hsb=>h3 b (hb b hbm) (meet b hbm) hsb⟩
 · rintro ⟨ha,hmin⟩
   refine mem_hits.mpr ⟨hb a ha,meet a ha,fun b hbl hp hs=>?_⟩
   obtain ⟨f,hf,hsf⟩:=hold b hbl hp
   have e:=hmin f hf (qck hsf hs)
   subst e
   exact qgp hs hsf
end Fam
namespace Fam
def qsk (L:List Nat) (a:Nat):Prop:=∀b∈L,sub a b→b=a
instance (L:List Nat) (a:Nat):Decidable (qsk L a):=inferInstanceAs (Decidable (∀b∈L,_))
def sayP (fs:List Nat) (a:Nat):Bool:=fs.any fun b=>decide (sub b a)
theorem qaD {fs:List Nat} {a:Nat}:sayP fs a=true↔∃b∈fs,sub b a:=by
 unfold sayP
 rw [List.any_eq_true]
 simp only [decide_eq_true_eq]
theorem say_mins {fs:List Nat} (hr:fs.Pairwise (· < ·)) (a:Nat):sayP (mins fs) a=sayP fs a:=by
 rw [Bool.eq_iff_iff,qaD,qaD]
 constructor
 · rintro ⟨b,hb,hs⟩
   exact ⟨b,((qcp hr).mp hb).1,hs⟩
 · rintro ⟨b,hb,hs⟩
   obtain ⟨c,hc,hs'⟩:=qkf hr hb
   exact ⟨c,hc,qck hs' hs⟩
theorem qfg {m:Nat} {fs gs:List Nat} (h1:fs.Pairwise (· < ·)) (h2:gs.Pairwise (· < ·)) (b1:∀a∈fs,a<2^m) (b2:∀a∈gs,a<2^m):mins fs=mins gs↔∀a,a<2^m→sayP fs a=sayP gs a:=by
 constructor
 · intro h a _
   rw [←say_mins h1,h,say_mins h2]
 · intro h
   have key:∀{fs gs:List Nat},fs.Pairwise (· < ·)→gs.Pairwise (· < ·)→(∀a∈fs,a<2^m)→(∀a∈gs,a<2^m)→(∀a,a<2^m→sayP fs a=sayP gs a)→∀a,a∈mins fs→a∈mins gs:=fun {fs gs} h1 h2 b1 b2 h a ha=>by
     obtain ⟨a1,a2⟩:=(qcp h1).mp ha
     have s:sayP gs a=true:=(h a (b1 a a1))▸qaD.mpr ⟨a,a1,qdB a⟩
     obtain ⟨b,hb,hs⟩:=qaD.mp s
     have s2:sayP fs b=true:=(h b (b2 b hb)).trans (qaD.mpr ⟨b,hb,qdB b⟩)
     obtain ⟨c,hc,hs2⟩:=qaD.mp s2
     have e:=a2 c hc (qck hs2 hs)
     subst e
     have e:=qgp hs2 hs
     subst e
     refine (qcp h2).mpr ⟨hb,fun d hd hsd=>?_⟩
     have s3:sayP fs d=true:=(h d (b2 d hd)).trans (qaD.mpr ⟨d,hd,qdB d⟩)
     obtain ⟨e,he,hse⟩:=qaD.mp s3
     have e2:=a2 e he (qck hse hsd)
     subst e2
     exact qgp hsd hse
   exact rise_ext (qcO h1) (qcO h2) fun a=>⟨key h1 h2 b1 b2 h a,key h2 h1 b2 b1 (fun a ha=>(h a ha).symm) a⟩
def nms (n a:Nat):List Nat:=(List.range n).filter fun k=>a.testBit k
theorem mem_nms {n a k:Nat}:k∈nms n a↔k<n∧a.testBit k=true:=by
 unfold nms
 rw [List.mem_filter,List.mem_range]
theorem nms_rise (n a:Nat):(nms n a).Pairwise (· < ·):=List.pairwise_lt_range.sublist List.filter_sublist
def ofN (L:List Nat):Nat:=L.foldl (fun z k=>z|||2^k) 0
theorem qpO (L:List Nat) (j:Nat):(ofN L).testBit j=decide (j∈L):=by
 have key:∀(L:List Nat) (z:Nat),(L.foldl (fun z k=>z|||2^k) z).testBit j=(z.testBit j||decide (j∈L)):=fun L=>by
   induction L with
   | nil=>intro z;simp
   | cons k L ih =>
     intro z
     rw [List.foldl_cons,ih,Nat.testBit_or,Nat.testBit_two_pow,Bool.or_assoc]
     congr 1
     by_cases c:k=j
     · subst c;simp
     · simp [c,Ne.symm c]
 unfold ofN
 rw [key]
 simp
theorem ofN_nms {n a:Nat} (h:a<2^n):ofN (nms n a)=a:=by
 refine Nat.eq_of_testBit_eq fun j=>?_
 rw [qpO]
 cases hb:a.testBit j with
 | true=>exact decide_eq_true (mem_nms.mpr ⟨qkB h hb,hb⟩)
 | false=>exact decide_eq_false fun z=>by rw [(mem_nms.mp z).2] at hb;cases hb
def pc (n a:Nat):Nat:=(nms n a).length
end Fam
namespace Fam
def yes (m:Nat) (f:Nat→Bool):List Nat:=(List.range (2^m)).filter f
def qmx (a k:Nat):Nat:=a+2^k
theorem qbb {m:Nat} {fs:List Nat} {a:Nat} (ha:a<2^m):sayP (hits m fs) a=hitP fs a:=by
 rw [Bool.eq_iff_iff,qaD]
 constructor
 · rintro ⟨b,hb,s⟩
   exact qhh s (mem_hits.mp hb).2.1
 · intro h
   exact qf6 ha h
end Fam
namespace Fam
def rsts (m:Nat) (fs:List Nat):List Nat:=(fs.map (rst m)).reverse
theorem mins_rise {L:List Nat} (h:L.Pairwise (· < ·)):(mins L).Pairwise (· < ·):=qcO h
theorem hits_lt {m:Nat} {fs:List Nat}:∀b∈hits m fs,b<2^m:=fun b hb=>(mem_hits.mp hb).1
theorem qfF {L:List Nat} (h:L.Pairwise (· < ·)) (q:∀a∈L,∀b∈L,sub b a→b=a):mins L=L:=rise_ext (mins_rise h) h fun x=>by
 rw [qcp h]
 exact ⟨fun z=>z.1,fun z=>⟨z,q x z⟩⟩
theorem hits_anti {m:Nat} {fs:List Nat}:∀a∈hits m fs,∀b∈hits m fs,sub b a→b=a:=fun a ha b hb s=>(mem_hits.mp ha).2.2 b (mem_hits.mp hb).1 (mem_hits.mp hb).2.1 s
theorem mins_hits (m:Nat) (fs:List Nat):mins (hits m fs)=hits m fs:=qfF (hits_rise m fs) hits_anti
end Fam
namespace Fam
def Each (m:Nat) (fs gs:List Nat):Prop:=(∀a∈fs,∀b∈gs,mt a b)∧∀s,s<2^m→sayP fs s=true∨sayP gs (rst m s)=true
theorem qgT {m:Nat} {X:List Nat} (hb:∀b∈X,b<2^m) {a:Nat} (ha:a<2^m):hitP X a = !sayP X (rst m a):=by
 rw [Bool.eq_iff_iff,hitP_iff]
 constructor
 · intro h
   cases e:sayP X (rst m a) with
   | false=>rfl
   | true =>
     obtain ⟨b,h1,h2⟩:=qaD.mp e
     exact absurd (qcd.mp (h b h1)) ((qd1 (hb b h1) ha).mp h2)
 · intro h b h1
   apply Classical.byContradiction
   intro z
   have:=(qd1 (hb b h1) ha).mpr fun y=>z (qcd.mp y)
   rw [qaD.mpr ⟨b,h1,this⟩] at h
   cases h
theorem each_iff {m:Nat} {fs gs:List Nat} (hf:∀b∈fs,b<2^m) (hr:gs.Pairwise (· < ·)) (hg:∀b∈gs,b<2^m):Each m fs gs↔hits m fs=mins gs:=by
 have key:(∀a,a<2^m→sayP (hits m fs) a=sayP gs a)↔hits m fs=mins gs:=by
   have:=qfg (m:=m) (hits_rise m fs) hr hits_lt hg
   rw [mins_hits] at this
   exact this.symm
 rw [←key]
 constructor
 · rintro ⟨h1,h2⟩ a ha
   rw [qbb ha,Bool.eq_iff_iff]
   constructor
   · intro h
     rw [qgT hf ha] at h
     rcases h2 (rst m a) (rst_lt m a) with z | z
     · rw [z] at h;cases h
     · rw [rst_rst ha] at z;exact z
   · intro h
     obtain ⟨b,hb,s⟩:=qaD.mp h
     exact hitP_iff.mpr fun c hc=>qlb s (qcd.mp (h1 c hc b hb))
 · intro h
   refine ⟨fun a ha b hb=>?_,fun s hs=>?_⟩
   · have h1:sayP gs b=true:=qaD.mpr ⟨b,hb,qdB b⟩
     rw [←h b (hg b hb),qbb (hg b hb)] at h1
     exact qcd.mp (hitP_iff.mp h1 a ha)
   · have h1:=h (rst m s) (rst_lt m s)
     rw [qbb (rst_lt m s),qgT hf (rst_lt m s),rst_rst hs] at h1
     cases e:sayP fs s with
     | true=>exact .inl rfl
     | false=>rw [e] at h1;exact .inr h1.symm
theorem each_turn {m:Nat} {fs gs:List Nat} (h:Each m fs gs):Each m gs fs:=⟨fun a ha b hb=>qcd.mp (h.1 b hb a ha),fun s hs=>by
 rcases h.2 (rst m s) (rst_lt m s) with z | z
 · exact .inr z
 · rw [rst_rst hs] at z;exact .inl z⟩
end Fam
namespace Fam
theorem qgG:∀(n:Nat) (L:List Nat),L.Nodup→(∀x∈L,x<n)→L.length≤n
 | 0,L,_,h=>by
   cases L with
   | nil=>exact Nat.le_refl _
   | cons a r=>exact absurd (h a (by simp)) (by omega)
 | n+1,L,hn,h=>by
   by_cases hm:n∈L
   · have h1:=qgG n (L.erase n) (hn.erase n) fun x hx=>by
       obtain ⟨h2,h3⟩:=hn.mem_erase_iff.mp hx
       have:=h x h3
       omega
     rw [List.length_erase_of_mem hm] at h1
     omega
   · have:=qgG n L hn fun x hx=>by
       have:=h x hx
       have:x≠n:=fun z=>hm (z▸hx)
       omega
     omega
def qge:List (List Nat):=[[0,1,3,7,15,31,63,127,255],[2,6,14,30,62,126,254],[4,5,13,29,61,125,253],[8,9,11,27,59,123,251],[10,26,58,122,250],[12,28,60,124,252],[16,17,19,23,55,119,247],[18,22,54,118,246],[20,21,53,117,245],[24,25,57,121,249],[32,33,35,39,47,111,239],[34,38,46,110,238],[36,37,45,109,237],[40,41,43,107,235],[42,106,234],[44,108,236],[48,49,51,115,243],[50,114,242],[52,116,244],[56,120,248],[64,65,67,71,79,95,223],[66,70,78,94,222],[68,69,77,93,221],[72,73,75,91,219],[74,90,218],[76,92,220],[80,81,83,87,215],[82,86,214],[84,85,213],[88,89,217],[96,97,99,103,231],[98,102,230],[100,101,229],[104,105,233],[112,113,241],[128,129,131,135,143,159,191],[130,134,142,158,190],[132,133,141,157,189],[136,137,139,155,187],[138,154,186],[140,156,188],[144,145,147,151,183],[146,150,182],[148,149,181],[152,153,185],[160,161,163,167,175],[162,166,174],[164,165,173],[168,169,171],[170],[172],[176,177,179],[178],[180],[184],[192,193,195,199,207],[194,198,206],[196,197,205],[200,201,203],[202],[204],[208,209,211],[210],[212],[216],[224,225,227],[226],[228],[232],[240]]
theorem qf8:qge.length=70:=by decide +kernel
theorem qkm:∀a,a<256→(qge.any fun c=>c.contains a)=true:=by decide +kernel
theorem qkj:∀c∈qge,∀a∈c,∀b∈c,sub a b∨sub b a:=by decide +kernel
def qgV (a:Nat):Nat:=qge.findIdx fun c=>c.contains a
theorem qf5 {a:Nat} (h:a<256):qgV a<70:=by
 rw [←qf8]
 refine List.findIdx_lt_length_of_exists ?_
 have:=qkm a h
 rw [List.any_eq_true] at this
 exact this
theorem qfs {a:Nat} (h:a<256):∃c,qge[qgV a]?=some c∧a∈c:=by
 have h1:qgV a<qge.length:=by rw [qf8];exact qf5 h
 have h2:=List.findIdx_getElem (w:=h1)
 refine ⟨_,List.getElem?_eq_getElem h1,?_⟩
 exact List.contains_iff_mem.mp h2
theorem sperner {fs:List Nat} (hr:fs.Pairwise (· < ·)) (hb:∀b∈fs,b<256) (q:∀a∈fs,∀b∈fs,sub b a→b=a):fs.length≤70:=by
 have hn:(fs.map qgV).Nodup:=by
   unfold List.Nodup
   rw [List.pairwise_map]
   refine List.Pairwise.imp_of_mem (fun {a b} ha hb2 h=>?_) hr
   intro e
   obtain ⟨c,h1,h2⟩:=qfs (hb a ha)
   obtain ⟨d,h3,h4⟩:=qfs (hb b hb2)
   rw [e,h3] at h1
   have hcd:=Option.some.inj h1
   subst hcd
   rcases qkj _ (List.mem_of_getElem? h3) a h2 b h4 with s | s
   · have:=q b hb2 a ha s
     omega
   · have:=q a ha b hb2 s
     omega
 have:=qgG 70 _ hn fun x hx=>by
   obtain ⟨a,ha,rfl⟩:=List.mem_map.mp hx
   exact qf5 (hb a ha)
 simpa using this
end Fam
namespace Fam
def clr (a k:Nat):Nat:=if a.testBit k=true then less a k else a
theorem qdf (a k j:Nat):(clr a k).testBit j=(a.testBit j&&decide (j≠k)):=by
 unfold clr
 by_cases h:a.testBit k=true
 · rw [if_pos h,less_bit h]
 · rw [if_neg h]
   by_cases e:j=k
   · subst e
     simp at h
     simp [h]
   · simp [e]
theorem and_pow (b k:Nat):b&&&2^k=if b.testBit k=true then 2^k else 0:=by
 apply Nat.eq_of_testBit_eq
 intro j
 rw [Nat.testBit_and,Nat.testBit_two_pow]
 by_cases e:k=j
 · subst e
   cases h:b.testBit k<;>simp [Nat.testBit_two_pow_self]
 · cases h:b.testBit k<;>simp [e,Nat.testBit_two_pow]
theorem clr_le (a k:Nat):clr a k≤a:=by
 unfold clr less
 split
 · exact Nat.sub_le _ _
 · exact Nat.le_refl _
theorem qey (a k j:Nat):(a|||2^k).testBit j=(a.testBit j||decide (k=j)):=by
 rw [Nat.testBit_or,Nat.testBit_two_pow]
theorem qlS {a b k:Nat}:sub (clr b k) a↔sub b (a|||2^k):=by
 rw [qbe,qbe]
 constructor
 · intro h j hj
   rw [qey]
   by_cases e:k=j
   · simp [e]
   · have:=h j (by rw [qdf,hj];simp;omega)
     simp [this]
 · intro h j hj
   rw [qdf] at hj
   have:=h j (by simp at hj;exact hj.1)
   rw [qey] at this
   simp at hj this
   rcases this with z | z
   · exact z
   · exact absurd z.symm hj.2
theorem qjk {a b k:Nat} (hb:b.testBit k=false):sub b (clr a k)↔sub b a:=by
 rw [qbe,qbe]
 constructor
 · intro h j hj
   have:=h j hj
   rw [qdf] at this
   simp at this
   exact this.1
 · intro h j hj
   rw [qdf,h j hj]
   simp
   rintro rfl
   rw [hb] at hj
   cases hj
theorem say_congr {fs gs:List Nat} (h:∀x,x∈fs↔x∈gs) (a:Nat):sayP fs a=sayP gs a:=by
 rw [Bool.eq_iff_iff,qaD,qaD]
 constructor
 · rintro ⟨b,hb,s⟩
   exact ⟨b,(h b).mp hb,s⟩
 · rintro ⟨b,hb,s⟩
   exact ⟨b,(h b).mpr hb,s⟩
theorem say_clr (fs:List Nat) (a k:Nat):sayP (fs.map fun b=>clr b k) a=sayP fs (a|||2^k):=by
 rw [Bool.eq_iff_iff,qaD,qaD]
 constructor
 · rintro ⟨b,hb,s⟩
   obtain ⟨c,hc,rfl⟩:=List.mem_map.mp hb
   exact ⟨c,hc,qlS.mp s⟩
 · rintro ⟨c,hc,s⟩
   exact ⟨_,List.mem_map.mpr ⟨c,hc,rfl⟩,qlS.mpr s⟩
def outs (fs:List Nat) (k:Nat):List Nat:=fs.filter fun b=>!b.testBit k
theorem say_outs (fs:List Nat) (a k:Nat):sayP (outs fs k) a=sayP fs (clr a k):=by
 rw [Bool.eq_iff_iff,qaD,qaD]
 constructor
 · rintro ⟨b,hb,s⟩
   obtain ⟨h1,h2⟩:=List.mem_filter.mp hb
   exact ⟨b,h1,(qjk (by simpa using h2)).mpr s⟩
 · rintro ⟨b,hb,s⟩
   have hk:b.testBit k=false:=by
     cases e:b.testBit k with
     | false=>rfl
     | true =>
       have:=qbe.mp s k e
       rw [qdf] at this
       simp at this
   exact ⟨b,List.mem_filter.mpr ⟨hb,by simp [hk]⟩,(qjk hk).mp s⟩
theorem say_append (fs gs:List Nat) (a:Nat):sayP (fs++gs) a=(sayP fs a||sayP gs a):=by
 unfold sayP
 rw [List.any_append]
theorem qn3 {a b c:Nat}:sub (a|||b) c↔sub a c∧sub b c:=by
 rw [qbe,qbe,qbe]
 constructor
 · intro h
   exact ⟨fun k hk=>h k (by simp [Nat.testBit_or,hk]),fun k hk=>h k (by simp [Nat.testBit_or,hk])⟩
 · rintro ⟨h1,h2⟩ k hk
   rw [Nat.testBit_or] at hk
   simp at hk
   rcases hk with z | z
   · exact h1 k z
   · exact h2 k z
def pairs (fs gs:List Nat):List Nat:=fs.flatMap fun a=>gs.map fun b=>a|||b
theorem say_pairs (fs gs:List Nat) (a:Nat):sayP (pairs fs gs) a=(sayP fs a&&sayP gs a):=by
 rw [Bool.eq_iff_iff,Bool.and_eq_true,qaD,qaD,qaD]
 constructor
 · rintro ⟨b,hb,s⟩
   obtain ⟨c,hc,hd⟩:=List.mem_flatMap.mp hb
   obtain ⟨d,hdg,rfl⟩:=List.mem_map.mp hd
   obtain ⟨s1,s2⟩:=qn3.mp s
   exact ⟨⟨c,hc,s1⟩,⟨d,hdg,s2⟩⟩
 · rintro ⟨⟨c,hc,s1⟩,⟨d,hd,s2⟩⟩
   exact ⟨c|||d,List.mem_flatMap.mpr ⟨c,hc,List.mem_map.mpr ⟨d,hd,rfl⟩⟩,qn3.mpr ⟨s1,s2⟩⟩
theorem pairs_lt {m:Nat} {fs gs:List Nat} (h1:∀b∈fs,b<2^m) (h2:∀b∈gs,b<2^m):∀b∈pairs fs gs,b<2^m:=by
 intro b hb
 obtain ⟨c,hc,hd⟩:=List.mem_flatMap.mp hb
 obtain ⟨d,hdg,rfl⟩:=List.mem_map.mp hd
 exact Nat.or_lt_two_pow (h1 c hc) (h2 d hdg)
theorem pairs_len (fs gs:List Nat):(pairs fs gs).length=fs.length*gs.length:=by
 unfold pairs
 induction fs with
 | nil=>simp
 | cons a r ih=>rw [List.flatMap_cons,List.length_append,ih,List.length_map,List.length_cons,Nat.succ_mul,Nat.add_comm]
theorem mins_sub {L:List Nat} (h:L.Pairwise (· < ·)):∀a∈mins L,a∈L:=fun a ha=>((qcp h).mp ha).1
theorem mins_alone {L:List Nat} (h:L.Pairwise (· < ·)):∀a∈mins L,∀b∈mins L,sub b a→b=a:=fun a ha b hb s=>((qcp h).mp ha).2 b (mins_sub h b hb) s
end Fam
namespace Fam
def Anti (L:List Nat):Prop:=∀a∈L,∀b∈L,sub b a→b=a
theorem qeL {m:Nat} {A B:List Nat} (r1:A.Pairwise (· < ·)) (r2:B.Pairwise (· < ·)) (b1:∀a∈A,a<2^m) (b2:∀a∈B,a<2^m) (m1:Anti A) (m2:Anti B) (h:∀a,a<2^m→sayP A a=sayP B a):A=B:=by
 have:=(qfg r1 r2 b1 b2).mpr h
 rw [qfF r1 m1,qfF r2 m2] at this
 exact this
theorem qcc {m:Nat} {X:List Nat} (hb:∀b∈X,b<2^m) {a:Nat} (ha:a<2^m):hitP X a = !sayP X (rst m a):=by
 rw [Bool.eq_iff_iff,hitP_iff]
 constructor
 · intro h
   cases e:sayP X (rst m a) with
   | false=>rfl
   | true =>
     obtain ⟨b,h1,h2⟩:=qaD.mp e
     exact absurd (qcd.mp (h b h1)) ((qd1 (hb b h1) ha).mp h2)
 · intro h b h1
   apply Classical.byContradiction
   intro z
   have:=(qd1 (hb b h1) ha).mpr fun y=>z (qcd.mp y)
   rw [qaD.mpr ⟨b,h1,this⟩] at h
   cases h
theorem qkF {m a k:Nat} (ha:a<2^m):clr a k<2^m:=Nat.lt_of_le_of_lt (clr_le a k) ha
theorem qpq {m a k:Nat} (ha:a<2^m) (hk:k<m):a|||2^k<2^m:=Nat.or_lt_two_pow ha (Nat.pow_lt_pow_right (by decide) hk)
theorem qo1 {m a k:Nat} (ha:a<2^m) (hk:k<m):rst m (clr a k)=rst m a|||2^k:=by
 apply Nat.eq_of_testBit_eq
 intro j
 rw [qct (qkF ha),qey,qct ha,qdf]
 by_cases e:k=j
 · subst e;simp [hk]
 · have:j≠k:=fun z=>e z.symm
   simp [e,this]
theorem qqz {m a k:Nat} (ha:a<2^m) (hk:k<m):rst m (a|||2^k)=clr (rst m a) k:=by
 apply Nat.eq_of_testBit_eq
 intro j
 rw [qct (qpq ha hk),qdf,qct ha,qey]
 by_cases e:k=j
 · subst e;simp
 · have:j≠k:=fun z=>e z.symm
   simp [e,this]
theorem outs_anti {L:List Nat} {k:Nat} (h:Anti L):Anti (outs L k):=fun a ha b hb s=>h a (List.mem_filter.mp ha).1 b (List.mem_filter.mp hb).1 s
theorem qnn {L:List Nat} {k:Nat}:∀b∈outs L k,b∈L:=fun b hb=>(List.mem_filter.mp hb).1
theorem qdD {L:List Nat} {k:Nat} (h:L.Pairwise (· < ·)):(outs L k).Pairwise (· < ·):=h.sublist List.filter_sublist
theorem hits_in {m k:Nat} {X fs:List Nat} (hk:k<m) (hX:∀b∈X,b<2^m) (hf:∀b∈fs,b<2^m) (h:∀a,sayP X a=sayP fs (a|||2^k)):hits m X=outs (hits m fs) k:=by
 refine qeL (m:=m) (hits_rise m X) (qdD (hits_rise m fs)) hits_lt (fun a ha=>hits_lt a (qnn a ha)) hits_anti (outs_anti hits_anti) fun a ha=>?_
 rw [qbb ha,say_outs,qbb (qkF ha),qcc hX ha,qcc hf (qkF ha),h,qo1 ha hk]
theorem hits_out {m k:Nat} {X Y fs:List Nat} (hk:k<m) (hX:∀b∈X,b<2^m) (hf:∀b∈fs,b<2^m) (h:∀a,sayP X a=sayP fs (clr a k)) (ry:Y.Pairwise (· < ·)) (by':∀b∈Y,b<2^m) (ay:Anti Y) (hy:∀a,sayP Y a=sayP (hits m fs) (a|||2^k)):hits m X=Y:=by
 refine qeL (m:=m) (hits_rise m X) ry hits_lt by' hits_anti ay fun a ha=>?_
 rw [qbb ha,hy,qbb (qpq ha hk),qcc hX ha,qcc hf (qpq ha hk),h,qqz ha hk]
theorem hits_either {m:Nat} {X Y fs gs:List Nat} (hX:∀b∈X,b<2^m) (hf:∀b∈fs,b<2^m) (hg:∀b∈gs,b<2^m) (h:∀a,sayP X a=(sayP fs a||sayP gs a)) (ry:Y.Pairwise (· < ·)) (by':∀b∈Y,b<2^m) (ay:Anti Y) (hy:∀a,sayP Y a=(sayP (hits m fs) a&&sayP (hits m gs) a)):hits m X=Y:=by
 refine qeL (m:=m) (hits_rise m X) ry hits_lt by' hits_anti ay fun a ha=>?_
 rw [qbb ha,hy,qbb ha,qbb ha,qcc hX ha,qcc hf ha,qcc hg ha,h,Bool.not_or]
theorem hits_both {m:Nat} {X Y fs gs:List Nat} (hX:∀b∈X,b<2^m) (hf:∀b∈fs,b<2^m) (hg:∀b∈gs,b<2^m) (h:∀a,sayP X a=(sayP fs a&&sayP gs a)) (ry:Y.Pairwise (· < ·)) (by':∀b∈Y,b<2^m) (ay:Anti Y) (hy:∀a,sayP Y a=(sayP (hits m fs) a||sayP (hits m gs) a)):hits m X=Y:=by
 refine qeL (m:=m) (hits_rise m X) ry hits_lt by' hits_anti ay fun a ha=>?_
 rw [qbb ha,hy,qbb ha,qbb ha,qcc hX ha,qcc hf ha,qcc hg ha,h,Bool.not_and]
end Fam
namespace Fam
def qsi (f:Nat→Bool) (x y s:Nat):Bool:=!s.testBit x&&!s.testBit y&&(f (s|||2^x)&&!f (s|||2^y))
def qtl (m:Nat) (f:Nat→Bool) (x y:Nat):Option Nat:=(List.range (2^m)).find? (qsi f x y)
def trn (m:Nat) (f:Nat→Bool) (k:Nat):Nat:=((List.range (2^m)).filter fun s=>!f s&&f (s|||2^k)).length
def trns (m:Nat) (f:Nat→Bool):List Nat:=(List.range m).map (trn m f)
theorem qkA:∀(A B:List Nat),A.Nodup→(∀x∈A,x∈B)→A.length≤B.length
 | [],_,_,_=>Nat.zero_le _
 | a::A,B,hn,hs=>by
   have hn':=List.nodup_cons.mp hn
   have ha:=hs a List.mem_cons_self
   have:=qkA A (B.erase a) hn'.2 fun x hx=>(List.mem_erase_of_ne (fun z:x=a=>hn'.1 (z▸hx))).mpr (hs x (List.mem_cons_of_mem _ hx))
   rw [List.length_erase_of_mem ha] at this
   have:=List.length_pos_of_mem ha
   simp only [List.length_cons]
   omega
theorem qlF {A:List Nat} {g:Nat→Nat} (hn:A.Nodup) (hi:∀a∈A,∀b∈A,g a=g b→a=b):(A.map g).Nodup:=by
 unfold List.Nodup
 rw [List.pairwise_map]
 exact List.Pairwise.imp_of_mem (fun {a b} ha hb hne e=>hne (hi a ha b hb e)) hn
theorem qqo {n:Nat} {c d:Nat→Bool} (g:Nat→Nat) (h:∀s,s<n→c s=true→g s<n∧d (g s)=true) (hi:∀s t,s<n→t<n→c s=true→c t=true→g s=g t→s=t):((List.range n).filter c).length≤((List.range n).filter d).length:=by
 have nd:((List.range n).filter c).Nodup:=List.nodup_range.sublist List.filter_sublist
 have:=qkA (((List.range n).filter c).map g) ((List.range n).filter d) (qlF nd fun a ha b hb e=>by
   rw [List.mem_filter,List.mem_range] at ha hb
   exact hi a b ha.1 hb.1 ha.2 hb.2 e) fun x hx=>by
     obtain ⟨s,hs,rfl⟩:=List.mem_map.mp hx
     rw [List.mem_filter,List.mem_range] at hs ⊢
     exact h s hs.1 hs.2
 rwa [List.length_map] at this
theorem qlT {s x:Nat} (f:Nat→Bool) (h1:f s=false) (h2:f (s|||2^x)=true):s.testBit x=false:=by
 cases e:s.testBit x with
 | false=>rfl
 | true =>
   have:s|||2^x=s:=Nat.eq_of_testBit_eq fun i=>by
     rw [qey]
     by_cases c:x=i
     · subst c;simp [e]
     · simp [c]
   rw [this,h1] at h2
   cases h2
theorem qls {f:Nat→Bool} {s k:Nat}:(!f s&&f (s|||2^k))=true↔f s=false∧f (s|||2^k)=true:=by
 cases f s<;>simp
theorem qhI {m:Nat} {f g:Nat→Bool} {k:Nat} (hk:k<m) (h:∀s,s<2^m→f s=g s):trn m f k=trn m g k:=by
 unfold trn
 congr 1
 refine List.filter_congr fun s hs=>?_
 have hs:=List.mem_range.mp hs
 rw [h s hs,h (s|||2^k) (Nat.or_lt_two_pow hs (Nat.pow_lt_pow_right (by decide) hk))]
theorem trns_congr {m:Nat} {f g:Nat→Bool} (h:∀s,s<2^m→f s=g s):trns m f=trns m g:=by
 unfold trns
 exact List.map_congr_left fun k hk=>qhI (List.mem_range.mp hk) h
def du (m:Nat) (f:Nat→Bool) (s:Nat):Bool:=!f (rst m s)
theorem qse {m:Nat} {f:Nat→Bool} {s:Nat} (hs:s<2^m):du m (du m f) s=f s:=by
 unfold du
 rw [rst_rst hs,Bool.not_not]
theorem qeX {m s k:Nat} (hs:s<2^m) (hk:k<m) (hb:s.testBit k=false):rst m (s|||2^k)<2^m∧(rst m (s|||2^k)).testBit k=false∧rst m (s|||2^k)|||2^k=rst m s:=by
 have hl:s|||2^k<2^m:=Nat.or_lt_two_pow hs (Nat.pow_lt_pow_right (by decide) hk)
 refine ⟨rst_lt _ _,by rw [qct hl,qey];simp,Nat.eq_of_testBit_eq fun j=>?_⟩
 rw [qey,qct hl,qct hs,qey]
 by_cases c:k=j
 · subst c;simp [hk,hb]
 · simp [c]
theorem qhE {m:Nat} {f:Nat→Bool} {k:Nat} (hk:k<m):trn m (du m f) k≤trn m f k:=by
 have key:∀s,s<2^m→(!du m f s&&du m f (s|||2^k))=true→s.testBit k=false∧rst m (s|||2^k)<2^m∧f (rst m (s|||2^k))=false∧f (rst m (s|||2^k)|||2^k)=true:=fun s hs hc=>by
   obtain ⟨h1,h2⟩:=qls.mp hc
   have hb:=qlT _ h1 h2
   obtain ⟨g1,g2,g3⟩:=qeX hs hk hb
   refine ⟨hb,g1,?_,?_⟩
   · unfold du at h2;simpa using h2
   · rw [g3];unfold du at h1;simpa using h1
 refine qqo (fun s=>rst m (s|||2^k)) (fun s hs hc=>?_) fun s t hs ht c1 c2 e=>?_
 · obtain ⟨_,h1,h2,h3⟩:=key s hs hc
   exact ⟨h1,qls.mpr ⟨h2,h3⟩⟩
 · obtain ⟨b1,_⟩:=key s hs c1
   obtain ⟨b2,_⟩:=key t ht c2
   have:=(qeX hs hk b1).2.2
   have e':rst m (s|||2^k)=rst m (t|||2^k):=e
   rw [e',(qeX ht hk b2).2.2] at this
   rw [←rst_rst hs,←this,rst_rst ht]
theorem qrj {m:Nat} {f:Nat→Bool} {k:Nat} (hk:k<m):trn m (du m f) k=trn m f k:=by
 refine Nat.le_antisymm (qhE hk) ?_
 have:=qhE (f:=du m f) hk
 rwa [qhI hk fun s hs=>qse (f:=f) hs] at this
theorem trns_du {m:Nat} {f:Nat→Bool}:trns m (du m f)=trns m f:=by
 unfold trns
 exact List.map_congr_left fun k hk=>qrj (List.mem_range.mp hk)
theorem say_hits_du {m:Nat} {fs:List Nat} (hb:∀b∈fs,b<2^m) {s:Nat} (hs:s<2^m):sayP (hits m fs) s=du m (sayP fs) s:=by
 rw [qbb hs,qgT hb hs]
 rfl
end Fam
namespace Fam
structure Ord (m:Nat) (o:List Nat):Prop where
 len:o.length=m
 lt:∀x∈o,x<m
 nd:o.Nodup
def at' (o:List Nat) (k:Nat):Nat:=o.getD k 0
def ex (o:List Nat) (a:Nat):Nat:=ofN ((nms 8 a).map (at' o))
section
variable {m:Nat} {o:List Nat}
def qsJ (o:List Nat):List Nat:=(List.range o.length).map fun j=>o.idxOf j
end
end Fam
namespace STb
open PySem PySem.SetTable
def Ris (xs:Array Nat):Prop:=xs.toList.Pairwise (· < ·)
theorem Ris.lt {xs:Array Nat} (h:Ris xs) {i j a b:Nat} (hij:i<j) (ha:xs[i]?=some a) (hb:xs[j]?=some b):a<b:=by
 have h':=List.pairwise_iff_getElem.mp h
 rw [←Array.getElem?_toList] at ha hb
 obtain ⟨h1,e1⟩:=List.getElem?_eq_some_iff.mp ha
 obtain ⟨h2,e2⟩:=List.getElem?_eq_some_iff.mp hb
 have:=h' i j h1 h2 hij
 rw [e1,e2] at this
 exact this
theorem Ris.le {xs:Array Nat} (h:Ris xs) {i j a b:Nat} (hij:i≤j) (ha:xs[i]?=some a) (hb:xs[j]?=some b):a≤b:=by
 rcases Nat.lt_or_ge i j with z | z
 · exact Nat.le_of_lt (h.lt z ha hb)
 · have:i=j:=by omega
   subst this
   rw [ha] at hb
   cases hb
   exact Nat.le_refl _
theorem qik {xs:Array Nat} (h:Ris xs) (j:Nat):∀(fuel lo hi:Nat),hi-lo≤fuel→lo≤hi→hi≤xs.size →
   (∀i y,i<lo→xs[i]?=some y→y<j)→(∀i y,hi≤i→xs[i]?=some y→j≤y) →
   below.go xs j fuel lo hi≤xs.size∧(∀i y,i<below.go xs j fuel lo hi→xs[i]?=some y→y<j)∧(∀i y,below.go xs j fuel lo hi≤i→xs[i]?=some y→j≤y)
 | 0,lo,hi,hf,hl,hs,h1,h2=>by
   have:lo=hi:=by omega
   subst this
   exact ⟨hs,h1,h2⟩
 | fuel+1,lo,hi,hf,hl,hs,h1,h2=>by
   rw [below.go]
   by_cases hlt:lo<hi
   · rw [if_pos hlt]
     dsimp only
     have hm:(lo+hi)/2<xs.size:=by omega
     have hg:xs[(lo+hi)/2]?=some (xs.getD ((lo+hi)/2) j):=by simp [Array.getD,hm]
     by_cases hc:xs.getD ((lo+hi)/2) j<j
     · rw [if_pos hc]
       refine qik h j fuel _ _ (by omega) (by omega) hs (fun i y hi' e=>?_) h2
       exact Nat.lt_of_le_of_lt (h.le (by omega) e hg) hc
     · rw [if_neg hc]
       refine qik h j fuel _ _ (by omega) (by omega) (by omega) h1 (fun i y hi' e=>?_)
       exact Nat.le_trans (Nat.not_lt.mp hc) (h.le hi' hg e)
   · rw [if_neg hlt]
     have:lo=hi:=by omega
     subst this
     exact ⟨hs,h1,h2⟩
theorem qei {xs:Array Nat} (h:Ris xs) (j:Nat):below xs j≤xs.size∧(∀i y,i<below xs j→xs[i]?=some y→y<j)∧(∀i y,below xs j≤i→xs[i]?=some y→j≤y) :=
 qik h j xs.size 0 xs.size (by omega) (Nat.zero_le _) (Nat.le_refl _) (fun i y hi=>by omega) (fun i y hi e=>by
   rw [Array.getElem?_eq_none (by omega)] at e
   cases e)
theorem qj6 {xs:Array Nat} (h:Ris xs):below xs 0=0:=by
 obtain ⟨h0,h1,_⟩:=qei h 0
 rcases Nat.eq_zero_or_pos (below xs 0) with z | z
 · exact z
 · have hlt:0<xs.size:=by omega
   have:=h1 0 xs[0] z (by simp)
   omega
theorem qkb {xs:Array Nat} (h:Ris xs) {i y:Nat} (e:xs[i]?=some y):below xs (y+1)=i+1:=by
 obtain ⟨h0,h1,h2⟩:=qei h (y+1)
 have hi:i<xs.size:=by
   rcases Nat.lt_or_ge i xs.size with z | z
   · exact z
   · rw [Array.getElem?_eq_none z] at e;cases e
 have g1:¬below xs (y+1)≤i:=fun z=>by have:=h2 i y z e;omega
 have g2:¬i+1<below xs (y+1):=fun z=>by
   have hlt:i+1<xs.size:=by omega
   have q:=h1 (i+1) xs[i+1] z (by simp [hlt])
   have q':=h.lt (Nat.lt_succ_self i) e (show xs[i+1]?=some xs[i+1] by simp [hlt])
   omega
 omega
theorem qfz {α:Type} (xs:Array α) (p:Nat) (hp:p≤xs.size) (x:α):(insertAt xs p x).toList=xs.toList.take p++x::xs.toList.drop p:=by
 unfold insertAt
 have e2:(xs.extract p xs.size).toList=xs.toList.drop p:=by
   rw [Array.toList_extract,List.extract_eq_drop_take]
   have:xs.size-p=(xs.toList.drop p).length:=by rw [List.length_drop,Array.length_toList]
   rw [this,List.take_length]
 have e1:(xs.extract 0 p).toList=xs.toList.take p:=by
   rw [Array.toList_extract,List.extract_eq_drop_take]
   rfl
 rw [Array.toList_append,Array.toList_push,e1,e2,List.append_assoc]
 rfl
theorem qoY {t:SetTable} (h:Ris t.place) {j:Nat} (hj:t.place[below t.place j]?≠some j):Ris (t.put j).1.place:=by
 obtain ⟨h0,h1,h2⟩:=qei h j
 unfold SetTable.put Ris
 dsimp only
 rw [qfz _ _ h0]
 have hp:(t.place.toList.take (below t.place j)++t.place.toList.drop (below t.place j)).Pairwise (· < ·):=by rw [List.take_append_drop];exact h
 obtain ⟨p1,p2,p3⟩:=List.pairwise_append.mp hp
 refine List.pairwise_append.mpr ⟨p1,List.pairwise_cons.mpr ⟨fun y hy=>?_,p2⟩,fun x hx y hy=>?_⟩
 · obtain ⟨i,e⟩:=List.getElem?_of_mem hy
   rw [List.getElem?_drop,Array.getElem?_toList] at e
   have q:=h2 _ y (Nat.le_add_right _ _) e
   rcases Nat.lt_or_ge j y with z | z
   · exact z
   · exfalso
     have ey:y=j:=by omega
     subst ey
     cases i with
     | zero=>exact hj (by simpa using e)
     | succ i =>
       have hlt:below t.place y<t.place.size:=by
         rcases Nat.lt_or_ge (below t.place y+(i+1)) t.place.size with z | z
         · omega
         · rw [Array.getElem?_eq_none z] at e;cases e
       have q1:=h2 (below t.place y) t.place[below t.place y] (Nat.le_refl _) (by simp)
       have q2:=h.lt (show below t.place y<below t.place y+(i+1) by omega) (show t.place[below t.place y]?=some t.place[below t.place y] by simp) e
       omega
 · have hx':x<j:=by
     obtain ⟨i,e⟩:=List.getElem?_of_mem hx
     rw [List.getElem?_take] at e
     split at e
     · rename_i hi
       rw [Array.getElem?_toList] at e
       exact h1 i x hi e
     · cases e
   rcases List.mem_cons.mp hy with rfl | hy
   · exact hx'
   · exact p3 x hx y hy
def qfv (t:SetTable) (j:Nat):Prop:=t.place[below t.place j]?≠some j
theorem qet {t:SetTable} {j:Nat} (h:∀i,t.slot j ≠ .live i):qfv t j:=by
 intro e
 unfold SetTable.slot at h
 dsimp only at h
 rw [if_pos (by rw [e];simp)] at h
 exact h _ rfl
theorem qgU {t:SetTable} {h:Int}:∀(fuel:Nat) (p:Probe) (j:Nat) (d:Option Nat),(∀x,p.dummy=some x→qfv t x)→probe.go t (fun _=>h+1) h fuel p=some (.empty j d)→qfv t j∧∀x,d=some x→qfv t x
 | 0,p,j,d,_,e=>by rw [probe.go] at e;cases e
 | fuel+1,p,j,d,hp,e=>by
   rw [probe.go] at e
   cases hs:t.slot p.j with
   | empty =>
     rw [hs] at e
     cases e
     exact ⟨qet (fun i z=>by rw [hs] at z;exact (nomatch z)),hp⟩
   | dummy =>
     rw [hs] at e
     refine qgU fuel _ j d (fun x hx=>?_) e
     have:(t.advance { p with dummy:=some p.j }).dummy=some p.j:=by unfold SetTable.advance;dsimp only;split<;>rfl
     rw [this] at hx
     cases hx
     exact qet fun i z=>by rw [hs] at z;cases z
   | live i =>
     rw [hs] at e
     dsimp only at e
     rw [if_neg (by simp;omega)] at e
     refine qgU fuel _ j d (fun x hx=>hp x ?_) e
     have:(t.advance p).dummy=p.dummy:=by unfold SetTable.advance;dsimp only;split<;>rfl
     rw [this] at hx
     exact hx
theorem qhp {t:SetTable} {h:Int} {j:Nat} {b:Bool} (e:t.freeSlot h=some (j,b)):qfv t j:=by
 unfold SetTable.freeSlot at e
 split at e
 · rename_i k d hd
   cases e
   obtain ⟨q1,q2⟩:=qgU _ _ _ _ (by intro x hx;cases hx) hd
   cases d with
   | none=>exact q1
   | some x=>exact q2 x rfl
 · cases e
theorem qk2 (n:Nat):Ris (Array.range n):=by
 unfold Ris
 rw [Array.toList_range]
 exact List.pairwise_lt_range
theorem qcu (t:SetTable) (n:Nat):Ris (t.standIn n).place:=qk2 n
theorem qkh {t:SetTable} {es:Array (Int×Value)} {h:Int} {x:Value} (hr:Ris t.place):Ris (layNew t es h x).2.1.place∧(layNew t es h x).2.1.led=t.led:=by
 unfold layNew
 split
 · rename_i slot wd e
   dsimp only
   unfold SetTable.orStandIn
   split
   · exact ⟨qoY hr (qhp e),rfl⟩
   · exact ⟨qcu _ _,rfl⟩
 · exact ⟨qcu _ _,rfl⟩
theorem qmJ {mask finger moves:Nat} {led plain:Bool} {hashes:Array Int} {t:SetTable} {o:Array Nat} (e:laid mask finger moves led plain hashes=some (t,o)):Ris t.place∧t.led=led:=by
 unfold laid at e
 cases hc:layClean mask hashes with
 | none=>rw [hc] at e;cases e
 | some owner =>
   rw [hc] at e
   have e':=Option.some.inj e
   have e1:=congrArg Prod.fst e'
   dsimp only at e1
   subst e1
   refine ⟨?_,rfl⟩
   unfold Ris
   dsimp only
   have key:∀l:List Nat,l.Pairwise (· < ·)→((l.filterMap fun j=>(owner.getD j none).map (j,·)).map (·.1)).Pairwise (· < ·):=by
     intro l
     induction l with
     | nil=>intro _;exact List.Pairwise.nil
     | cons a r ih =>
       intro hp
       obtain ⟨h1,h2⟩:=List.pairwise_cons.mp hp
       rw [List.filterMap_cons]
       split
       · exact ih h2
       · rename_i b hb
         rw [List.map_cons]
         refine List.pairwise_cons.mpr ⟨fun y hy=>?_,ih h2⟩
         have hb':b.1=a:=by
           cases hq:owner.getD a none with
           | none=>rw [hq] at hb;cases hb
           | some z=>rw [hq] at hb;cases hb;rfl
         rw [hb']
         obtain ⟨q,hq,rfl⟩:=List.mem_map.mp hy
         obtain ⟨z,hz,e⟩:=List.mem_filterMap.mp hq
         have:q.1=z:=by
           cases hq2:owner.getD z none with
           | none=>rw [hq2] at e;cases e
           | some v=>rw [hq2] at e;cases e;rfl
         rw [this]
         exact h1 z hz
   simpa using key (List.range (mask+1)) List.pairwise_lt_range
theorem qhK {t:SetTable} {es:Array (Int×Value)} {wanted:Nat}:Ris (relayAll t es wanted).2.1.place∧(relayAll t es wanted).2.1.led=t.led:=by
 unfold relayAll
 split
 · rename_i t' order e
   dsimp only
   split
   · unfold SetTable.relaid at e
     exact qmJ e
   · exact ⟨qcu _ _,rfl⟩
 · exact ⟨qcu _ _,rfl⟩
end STb
namespace STb
open PySem PySem.SetTable PyProof.Rows
def kI:Value→Option Int
 | .int n _=>some n
 | _=>none
theorem qo4 {prog:Program} {w:World} {k:Int} {v:Value}:(intKind prog w).is k v=true↔kI v=some k:=by
 constructor
 · intro h
   cases v<;>first
     | (rename_i n t;have:n=k:=by simpa [intKind,Value.isInt] using h
        rw [this];rfl)
     | (exfalso;simp [intKind,Value.isInt] at h)
 · intro h
   cases v<;>first
     | (rename_i n t;cases h;exact intKind_is _ _ _ _)
     | cases h
def RS (prog:Program) (w:World) (h:Heap) (a:Addr) (ns:List Int):Prop :=
 ∃es ep t,h.get? a=some { cls := .type "set",dict:=none,data := .set es ep t }∧ElemsOf (intKind prog w) es.toList∧(es.toList.map fun e=>kI e.2).Perm (ns.map some)∧es.size<scanBound∧t.fits es.size=true ∧
   Ris t.place∧t.led = !w.params.followText "set-order" ∧ ns.Nodup
theorem RS.keep {prog:Program} {w:World} {h h':Heap} {a:Addr} {ns:List Int} (r:RS prog w h a ns) (k:∀o,h.get? a=some o→h'.get? a=some o):RS prog w h' a ns:=by
 obtain ⟨es,ep,t,e,q⟩:=r
 exact ⟨es,ep,t,k _ e,q⟩
theorem RS.len {prog:Program} {w:World} {h:Heap} {a:Addr} {ns:List Int} (r:RS prog w h a ns):ns.length<scanBound:=by
 obtain ⟨es,ep,t,e,_,p,b,_⟩:=r
 have:=p.length_eq
 rw [List.length_map,List.length_map,Array.length_toList] at this
 omega
def qdo (ns:List Int) (n:Int):List Int:=if n∈ns then ns else ns++[n]
theorem qg8 {ns:List Int} {n:Int} (h:ns.Nodup):(qdo ns n).Nodup:=by
 unfold qdo
 split
 · exact h
 · rename_i hn
   exact List.nodup_append.mpr ⟨h,by simp,fun a ha b hb e=>hn (by simp at hb;rw [←hb,←e];exact ha)⟩
theorem qhi {ns:List Int} {n k:Int}:k∈qdo ns n↔k∈ns∨k=n:=by
 unfold qdo
 split
 · rename_i hn
   exact ⟨.inl,fun h=>h.elim id fun e=>e▸hn⟩
 · simp
theorem qmv (ns:List Int) (n:Int):(qdo ns n).length≤ns.length+1:=by
 unfold qdo
 split
 · omega
 · simp
section
variable {prog:Program} {w:World} {A:Around} {E:Value→Shared→Prop} {s:Shared} {a:Addr}
theorem qq1 {ns:List Int} {n:Int} {tk:Tok} {Q:Bool→Shared→Prop} (r:RS prog w s.heap a ns) (room:ns.length+1<scanBound)
   (h:∀b h',Heap.SameBut a s.heap h'→RS prog w h' a (qdo ns n)→Q b { s with heap:=h' }) :
   wpAny (model prog w) A (setAddHashed a (.int n tk) ((intKind prog w).hash n)) Q E s:=by
 obtain ⟨es,ep,t,ho,el,pm,bd,ft,rs,ld,nd⟩:=r
 have hsz:es.size=ns.length:=by
   have:=pm.length_eq
   rwa [List.length_map,List.length_map,Array.length_toList] at this
 have hkey:(intKind prog w).is n (.int n tk)=true:=intKind_is _ _ _ _
 have memk:∀k:Int,k∈ns↔∃e∈es.toList,(intKind prog w).is k e.2=true:=fun k=>by
   have:k∈ns↔some k∈ns.map some:=by simp
   rw [this,←pm.mem_iff,List.mem_map]
   exact ⟨fun ⟨e,he,q⟩=>⟨e,he,qo4.mpr q⟩,fun ⟨e,he,q⟩=>⟨e,he,qo4.mp q⟩⟩
 unfold setAddHashed setAddHashedIn
 refine wpAny_holding (wpAny_bind (wpAny_setState_of ho rfl ft ?_))
 dsimp only
 rw [byScan_of (x := .int n tk) rfl bd el]
 simp only [if_true]
 unfold setAddByScan
 refine wpAny_bind (wpAny_bind (wpAny_rule (wpAny_bind (wpAny_setScan_of hkey ho rfl ft el ?_))))
 cases hr:List.findIdx? (fun e=>(intKind prog w).is n e.2) es.toList with
 | some j =>
   dsimp only
   obtain ⟨hj,hpj,_⟩:=List.findIdx?_eq_some_iff_getElem.mp hr
   have hin:n∈ns:=(memk n).mpr ⟨_,List.getElem_mem hj,hpj⟩
   refine wpAny_pure (wpAny_pure ?_)
   have q:=h false s.heap (Heap.SameBut.refl a s.heap) (by rw [show qdo ns n=ns from if_pos hin];exact ⟨es,ep,t,ho,el,pm,bd,ft,rs,ld,nd⟩)
   exact q
 | none =>
   dsimp only
   have hnot:¬n∈ns:=fun z=>by
     obtain ⟨e,he,q⟩:=(memk n).mp z
     have:=List.findIdx?_eq_none_iff.mp hr e he
     rw [q] at this
     cases this
   have pN:=layNew_perm t es ((intKind prog w).hash n) (.int n tk)
   have fN:=layNew_fits t es ((intKind prog w).hash n) (.int n tk)
   have rN:=qkh (es:=es) (h:=(intKind prog w).hash n) (x := .int n tk) rs
   generalize layNew t es ((intKind prog w).hash n) (.int n tk)=L at pN fN rN ⊢
   obtain ⟨e1,t1,wd,gv⟩:=L
   dsimp only at pN fN rN ⊢
   rw [Array.toList_push] at pN
   have el1:ElemsOf (intKind prog w) e1.toList:=(el.push hkey rfl).perm pN
   have pm1:(e1.toList.map fun e=>kI e.2).Perm ((qdo ns n).map some):=by
     rw [show qdo ns n=ns++[n] from if_neg hnot,List.map_append]
     refine (pN.map fun e=>kI e.2).trans ?_
     rw [List.map_append]
     exact pm.append (List.Perm.refl _)
   have sz1:e1.size=es.size+1:=by
     rw [←Array.length_toList,pN.length_eq,List.length_append,Array.length_toList]
     rfl
   have bd1:e1.size<scanBound:=by omega
   have nd1:=qg8 (n:=n) nd
   have gw:∀(b:Bool) (s₁:Shared) (Q':Unit→Shared→Prop),Q' () s₁→wpAny (model prog w) A (match b with | true=>rule "set.scan.the-table-gave-way" | false=>pure ()) Q' E s₁:=fun b s₁ Q' q=>by
     cases b
     · exact wpAny_pure q
     · exact wpAny_rule q
   refine wpAny_bind (gw gv _ _ ?_)
   have tail:∀t2:SetTable,t2.fits e1.size=true→Ris t2.place→t2.led=t.led→wpAny (model prog w) A (do
       storeSet a e1 t2
       if (!wd&&t2.tooFull)=true then do
           (match (relayAll t2 e1 (SetTable.grown e1.size)).2.2 with | true=>rule "set.scan.the-table-gave-way" | false=>pure ())
           storeSet a (relayAll t2 e1 (SetTable.grown e1.size)).1 (relayAll t2 e1 (SetTable.grown e1.size)).2.1
           pure (some true)
         else pure (some true)) (fun r s'=>∃b,r=some b∧Q b s') E s:=fun t2 f2 r2 l2=>by
     refine wpAny_bind (wpAny_storeSet_of ho rfl ?_ (fits_of_scanBound bd1))
     have g1:(s.heap.update a (Obj.putSet e1 t2)).get? a=some { cls := .type "set",dict:=none,data := .set e1 (ep+1) t2 }:=Heap.get?_update_self (Obj.putSet e1 t2) ho rfl
     have sb1:=Heap.SameBut.update s.heap a (Obj.putSet e1 t2)
     split
     · have pR:=relayAll_perm t2 e1 (SetTable.grown e1.size)
       have fR:=relayAll_fits t2 e1 (SetTable.grown e1.size)
       have rR:=qhK (t:=t2) (es:=e1) (wanted:=SetTable.grown e1.size)
       generalize relayAll t2 e1 (SetTable.grown e1.size)=L2 at pR fR rR ⊢
       obtain ⟨e3,t3,g3⟩:=L2
       dsimp only at pR fR rR ⊢
       have sz3:e3.size=e1.size:=by rw [←Array.length_toList,pR.length_eq,Array.length_toList]
       refine wpAny_bind (gw g3 _ _ (wpAny_bind (wpAny_storeSet_of g1 rfl ?_ (fits_of_scanBound (by omega)))))
       exact wpAny_pure ⟨true,rfl,h true _ (sb1.trans (Heap.SameBut.update _ a _)) ⟨e3,_,t3,Heap.get?_update_self (Obj.putSet e3 t3) g1 rfl,el1.perm pR,(pR.map _).trans pm1,by omega,fR,rR.1,by rw [rR.2,l2];exact ld,nd1⟩⟩
     · exact wpAny_pure ⟨true,rfl,h true _ sb1 ⟨e1,_,t2,g1,el1,pm1,bd1,f2,r2,by rw [l2];exact ld,nd1⟩⟩
   have fin:∀(r:Option Bool) (s':Shared),(∃b,r=some b∧Q b s')→wpAny (model prog w) A (match r with | some added=>pure added | none=>setAddHashedIn a (.int n tk) ((intKind prog w).hash n) 99999) Q E s':=fun r s' ⟨b,e,q⟩=>by
     subst e
     exact wpAny_pure q
   split
   · refine wpAny_bind ?_
     rw [hashByValue_scannable 8 (x := .int n tk) rfl]
     refine wpAny_pure ?_
     refine wpAny_mono (tail t1 fN rN.1 rN.2) (fun r s' q=>?_) fun _ _ z=>z
     exact fin r s' q
   · refine wpAny_bind (wpAny_pure ?_)
     refine wpAny_mono (tail t1 fN rN.1 rN.2) (fun r s' q=>?_) fun _ _ z=>z
     exact fin r s' q
end
end STb
namespace STb
open PySem PySem.SetTable PyProof.Rows
def qco (val:Nat→Int) (i:Nat):List Int:=((List.range i).map val).foldl qdo []
theorem qcZ (val:Nat→Int) (i:Nat):qco val (i+1)=qdo (qco val i) (val i):=by
 unfold qco
 rw [List.range_succ,List.map_append,List.foldl_append]
 rfl
theorem qfO (val:Nat→Int):∀i,(qco val i).length≤i
 | 0=>Nat.zero_le _
 | i+1=>by
   rw [qcZ]
   have h1:=qmv (qco val i) (val i)
   have h2:=qfO val i
   omega
theorem qhP (val:Nat→Int) (k:Int):∀i,k∈qco val i↔∃j,j<i∧val j=k
 | 0=>by simp [qco]
 | i+1=>by
   rw [qcZ,qhi,qhP val k i]
   constructor
   · rintro (⟨j,hj,e⟩ | e)
     · exact ⟨j,by omega,e⟩
     · exact ⟨i,by omega,e.symm⟩
   · rintro ⟨j,hj,e⟩
     by_cases z:j=i
     · exact .inr (by rw [←e,z])
     · exact .inl ⟨j,by omega,e⟩
section
variable {prog:Program} {w:World} {A:Around} {R:Result→Shared→Prop} {I:Addr} {fp wr:List Addr} {G:Array GenState→Array GenState→Prop} {n:Nat} {P:Nat→Value→Prop} {St:Nat→Shared→Prop}
theorem qmc (W:WalksS prog w A.in1 I fp wr G n P St) (S:Addr) (out:S∉fp) (val:Nat→Int) (hv:∀i v,P i v→∃t,v = .int (val i) t) (room:∀i,i≤n→(qco val i).length+1<scanBound) :
   ∀(k i:Nat) (s:Shared),n-i=k→i≤n→St i s→RS prog w s.heap S (qco val i) →
     (∀s',Moved (S::wr) G s s'→RS prog w s'.heap S (qco val n)→R (.ok (.ret .none)) s')→codeAny (model prog w) A (.builtin "set.update.loop" ⟨[.ref S,.ref I],[]⟩) R s:=by
 have nw:S∉wr:=fun z=>out (W.sub _ z)
 have sub:∀b∈wr,b∈S::wr:=fun b z=>List.mem_cons_of_mem _ z
 intro k
 induction k with
 | zero =>
   intro i s hk hi st r fin
   have:i=n:=by omega
   subst this
   refine codeAny_builtin F.entry_set_update_loop ?_
   rw [Around.under_plainId F.plain_set_update_loop _]
   refine wpAny_bind (m:=pyNext (.ref I)) (W.done s _ _ st fun s' mv=>?_)
   exact wpAny_pure (fin s' (mv.mono sub) (r.keep fun o e=>mv.heap S o nw e))
 | succ k ih =>
   intro i s hk hi st r fin
   have hlt:i<n:=by omega
   refine codeAny_builtin F.entry_set_update_loop ?_
   rw [Around.under_plainId F.plain_set_update_loop _]
   refine wpAny_bind (m:=pyNext (.ref I)) (W.item i s _ _ hlt st fun v s' pv st' mv=>?_)
   obtain ⟨t,rfl⟩:=hv i v pv
   have r':=r.keep (h':=s'.heap) fun o e=>mv.heap S o nw e
   show wpAny _ A.in1 (holding [Value.int (val i) t] (setAdd S (.int (val i) t)) >>= _) _ _ s'
   refine wpAny_bind (wpAny_holding ?_)
   unfold setAdd
   refine wpAny_holding (wpAny_bind ((intKind prog w).pyHash (k:=val i) (intKind_is _ _ _ _) ?_))
   refine qq1 (s:={ s' with toks:=s'.toks+1 }) r' (room i hi) fun b h' sb r2=>?_
   refine wpAny_pure ⟨plainId_quiet F.plain_set_update_loop _,ih (i+1) _ (by omega) hlt (W.frame _ s' _ _ st' (Nat.le_succ _) fun b hb o e=>?_) (by rw [qcZ];exact r2) fun s2 mv2 r3=>?_⟩
   · rw [sb.2 b fun z=>out (z▸hb)];exact e
   · refine fin s2 (Moved.trans W.gtrans ((mv.mono sub).then_heap (Nat.le_succ _) fun b o hb e=>?_) mv2) r3
     rw [sb.2 b fun z=>hb (z▸List.mem_cons_self)];exact e
end
section
variable {prog:Program} {w:World} {A:Around} {E:Value→Shared→Prop} {s:Shared}
abbrev qc6 (b:Bool):Obj:={ cls := .type "set",dict:=none,data := .set #[] 0 (.fresh 0 0 b) }
theorem qnJ {h:Heap} {a:Addr} (e:h.get? a=some (qc6 (!w.params.followText "set-order"))):RS prog w h a [] :=
 ⟨#[],0,_,e,fun _ z=>by simp at z,List.Perm.refl _,by show 0<4096;decide,rfl,List.Pairwise.nil,rfl,List.nodup_nil⟩
theorem qo8 (v:Value) {Q₁:Value→Shared→Prop} (h:Q₁ (.ref s.heap.objs.size) { s with heap:=s.heap.push (qc6 (!w.params.followText "set-order")) }) :
   codeAny (model prog w) A (.call (.builtin "set.__new__") ⟨[.type "set",v],[]⟩) (wants Q₁ E) s:=by
 refine codeAny_of_tree ?_
 refine wpAny_bind (m:=checkBuiltinCall "set.__new__" ⟨[.type "set",v],[]⟩) (wpAny_of_eq (F.newCall_set_1 v) (wpAny_pure ⟨plainId_quiet F.plain_set_new _,codeAny_builtin F.entry_set_new ?_⟩))
 rw [Around.under_plainId F.plain_set_new _]
 unfold Builtin.«set.__new__» Builtin.Frozenset.newClass
 have sub0:=sub_set_self
 obtain ⟨hp,g,d,tk,os⟩:=s
 dsimp only
 wp_walk
 refine wpAny_askSetting (wpAny_pure ?_)
 dsimp only
 simp only [newObj]
 exact wpAny_bind (wpAny_alloc (wpAny_pure (wpAny_pure h)))
set_option maxHeartbeats 3200000 in
theorem qk6 {l:Addr} {its:Array Value} {ns:List Int} {Q:Value→Shared→Prop} (hh:A.handled=none) (hl:s.heap.IsList l its) (hi:IntsAre its.toList ns) (room:∀i,i≤its.size→(qco (fun i=>ns.getD i 0) i).length+1<scanBound)
   (h:∀(h':Heap) (tk:Nat),RS prog w h' s.heap.objs.size (qco (fun i=>ns.getD i 0) its.size)→(∀b o,b<s.heap.objs.size→s.heap.get? b=some o→h'.get? b=some o)→Q (.ref s.heap.objs.size) { s with heap:=h',toks:=tk }) :
   wpAny (model prog w) A (call (.type "set") [.ref l]) Q E s:=by
 obtain ⟨c,tl,mro⟩:=F.called_set.mro
 have made:=F.called_set.made
 have sub1:=F.called_set.sub
 refine wpAny_call (codeAny_of_tree (wpAny_pure ⟨Code.quiet_builtin _ (by decide +kernel),codeAny_builtin F.entry_type_call ?_⟩))
 rw [Around.under_plain (weight_type_call_type "set" [.ref l] []) rfl]
 have nt:=F.called_set.notType
 have cc:=F.called_set.canCreate
 have tc:=F.typeCall_set_1 (.ref l)
 repeat (any_goals (first | assumption | wp_step))
 refine codeAny_mono (qo8 (.ref l) (E:=E) (Q₁:=fun obj s₁=>obj = .ref s.heap.objs.size∧s₁={ s with heap:=s.heap.push (qc6 (!w.params.followText "set-order")) }) ⟨rfl,rfl⟩) fun r s₁ hr=>?_
 cases r with
 | error e=>exact hr
 | ok fl =>
   cases fl with
   | ret obj =>
     obtain ⟨rfl,rfl⟩:=hr
     have g0:(s.heap.push (qc6 (!w.params.followText "set-order"))).get? s.heap.objs.size=some (qc6 (!w.params.followText "set-order")):=Heap.get?_push_size _ rfl
     have ty:Shared.TypeIs { s with heap:=s.heap.push (qc6 (!w.params.followText "set-order")) } (.ref s.heap.objs.size) "set" := ⟨_,g0,rfl⟩
     have li:=F.called_set.init.lookup
     have bi:=F.called_set.init.bind (.ref s.heap.objs.size)
     repeat (any_goals (first | assumption | wp_step))
     refine codeAny_mono (codeAny_call_builtin (R:=wants (fun r s₂=>r = .none∧∃h' tk,s₂={ s with heap:=h',toks:=tk }∧RS prog w h' s.heap.objs.size (qco (fun i=>ns.getD i 0) its.size) ∧
         (∀b o,b<s.heap.objs.size→s.heap.get? b=some o→h'.get? b=some o)) E) F.called_set.init.plain F.entry_set_init (check_set_init_1 ty ?_)) fun r₂ s₂ hr₂=>?_
     · obtain ⟨⟨oc,od,ot,osl⟩,e0,ec,nl,ed⟩:=hl
       simp only at ec ed
       subst ec ed
       have e1:(s.heap.push (qc6 (!w.params.followText "set-order"))).get? l=some ⟨.type "list",od,.seq its nl,osl⟩:=Heap.get?_push_of_some _ e0
       have q1:=F.sub_list_set
       have q2:=F.sub_list_frozenset
       have q3:(Value.type "list" == Value.type "dict")=false:=by decide
       have il:(s.heap.push (qc6 (!w.params.followText "set-order"))).IsList l its:=⟨_,e1,rfl,nl,rfl⟩
       unfold Builtin.«set.__init__» noKeywords Builtin.Frozenset.updateFrom
       generalize pI:pyIter=PIt
       wp_walk
       subst pI
       refine wpAny_pyIter_list il (wpAny_bind (wpAny_runValue ?_))
       have hlt:l<s.heap.objs.size:=Heap.lt_size e0
       have hh3:A.in1.in1.in1.handled=none:=by simp [hh]
       have ne1:l≠(s.heap.push (qc6 (!w.params.followText "set-order"))).objs.size:=by
         rw [Heap.size_push]
         exact Nat.ne_of_lt (Nat.lt_succ_of_lt hlt)
       have ne2:s.heap.objs.size∉[(s.heap.push (qc6 (!w.params.followText "set-order"))).objs.size,l]:=by
         rw [Heap.size_push]
         simp only [List.mem_cons,List.not_mem_nil,or_false,not_or]
         exact And.intro (Nat.ne_of_lt (Nat.lt_succ_self _)) (Nat.ne_of_gt hlt)
       refine qmc ((Walks.list hh3 _ l ne1 its).toS) s.heap.objs.size ne2 (fun i=>ns.getD i 0) (fun i v e=>IntsAre.int_at hi i v (by rw [Array.getElem?_toList];exact e)) room (its.size-0) 0 _ (by omega) (Nat.zero_le _)
         ⟨⟨_,Heap.get?_push_size _ rfl,rfl,rfl⟩,il.push _⟩ (qnJ (Heap.get?_push_of_some _ g0)) ?_
       intro s' mv r'
       obtain ⟨h',g',d',tk',os'⟩:=s'
       have eg:g'=s.gens:=mv.gens
       have ed:d'=s.drawn:=mv.drawn
       have eo:os'=s.os:=mv.os
       subst eg ed eo
       refine wpAny_pure (wpAny_pure ⟨rfl,h',tk',rfl,r',fun b o hb e=>?_⟩)
       refine mv.heap b o ?_ (Heap.get?_push_of_some _ (Heap.get?_push_of_some _ e))
       rw [Heap.size_push]
       simp only [List.mem_cons,List.not_mem_nil,or_false,not_or]
       exact And.intro (Nat.ne_of_lt hb) (Nat.ne_of_lt (Nat.lt_succ_of_lt hb))
     · cases r₂ with
       | error e=>exact hr₂
       | ok fl₂ =>
         cases fl₂ with
         | ret r =>
           obtain ⟨rfl,h',tk,rfl,r',kp⟩:=hr₂
           repeat (any_goals (first | assumption | wp_step))
           exact h _ _ r' kp
         | _=>exact hr₂.elim
   | _=>exact hr.elim
end
end STb
namespace STb
open PySem PySem.SetTable PyProof.Rows
theorem qbO:Slot "set_iterator" "__next__" "set_iterator.__next__" :=
 Slot.of (owner := "set_iterator") (n := "__next__") (by (rw [typeLookup_type,builtinLookup_eq_fast]);kernel_rfl) (by decide +kernel) (by decide +kernel) (by decide +kernel) (by first | (exact Or.inl (by decide +kernel)) | (exact Or.inr (by decide +kernel))) (by (rw [isSubtype_type]);kernel_rfl)
theorem qeP:entryFor table "set_iterator.__next__" = some Builtin.«set_iterator.__next__»:=entryFor_of_tree (by kernel_rfl)
theorem qgZ (a:Value):argsOk "set_iterator.__next__" ⟨[a],[]⟩:=by unfold argsOk;kernel_rfl
theorem qj4:entryFor table "set.__iter__" = some Builtin.«frozenset.__iter__»:=entryFor_alias (id' := "frozenset.__iter__") (by kernel_rfl) (by decide +kernel) (by decide +kernel) (by kernel_rfl)
theorem qdZ {α:Type}:∀(l:List α) (i:Nat) (h:i<l.length),(l[i]::l.eraseIdx i).Perm l
 | [],i,h=>by cases h
 | x::r,0,h=>List.Perm.refl _
 | x::r,i+1,h=>(List.Perm.swap _ _ _).trans (List.Perm.cons _ (qdZ r i (Nat.lt_of_succ_lt_succ h)))
theorem qhQ:typeLookup (.type "set") "__len__" = pure (some (.builtin "set.__len__")):=by (rw [typeLookup_type,builtinLookup_eq_fast]);kernel_rfl
theorem qiW:isSubtype (.type "set") (.type "set")=pure true:=by (rw [isSubtype_type]);kernel_rfl
theorem qkY {α:Type} (nx:Nat→Nat):∀(fuel k:Nat) (left:List α) (out:Array α),left.length=fuel→(pickOrder.go nx fuel k left out).toList.Perm (out.toList++left)
 | 0,k,left,out,h=>by
   rw [pickOrder.go]
   rw [List.length_eq_zero_iff.mp h,List.append_nil]
 | fuel+1,k,left,out,h=>by
   rw [pickOrder.go]
   have hlt:nx k%left.length<left.length:=Nat.mod_lt _ (by omega)
   rw [List.getElem?_eq_getElem hlt]
   dsimp only
   refine (qkY nx fuel (k+1) _ _ (by rw [List.length_eraseIdx_of_lt hlt];omega)).trans ?_
   rw [Array.toList_push,List.append_assoc]
   refine List.Perm.append_left _ ?_
   exact qdZ left _ hlt
theorem qe6 {α:Type} (nx:Nat→Nat) (xs:Array α):(pickOrder nx xs).toList.Perm xs.toList:=by
 have:=qkY nx xs.size 0 xs.toList #[] (by simp)
 simpa [pickOrder] using this
section
variable {prog:Program} {w:World} {A:Around} {E:Value→Shared→Prop} {s:Shared}
theorem qlC {src:Source} {n:Nat} {Q:Nat→Shared→Prop} (hn:n≠0) (h:∀i d,i<n→Q i { s with drawn:=d }):wpAny (model prog w) A (choose src n) Q E s :=
 fun Γ p _=>⟨hn,h _ _ (Nat.mod_lt _ (Nat.pos_of_ne_zero hn))⟩
theorem qmf:∀(n:Nat) (xs:List Nat) (s:Shared) (Q:List Nat→Shared→Prop),xs.length=n→(∀ys d,ys.Perm xs→Q ys { s with drawn:=d })→wpAny (model prog w) A (drawOrder n xs) Q E s
 | 0,xs,s,Q,h,q=>by
   rw [List.length_eq_zero_iff.mp h] at q ⊢
   exact wpAny_pure (q [] s.drawn (List.Perm.refl _))
 | n+1,[],s,Q,h,q=>by cases h
 | n+1,x::r,s,Q,h,q=>by
   refine wpAny_bind (m:=choose .order (x::r).length) (qlC (by simp) fun i d hi=>?_)
   rw [List.getElem?_eq_getElem hi]
   dsimp only
   refine wpAny_bind (qmf n ((x::r).eraseIdx i) _ _ (by rw [List.length_eraseIdx_of_lt hi];simp at h ⊢;exact h) fun ys d' hp=>?_)
   exact wpAny_pure (q _ d' ((List.Perm.cons _ hp).trans (qdZ _ _ hi)))
theorem qdw {Q:Bool→Shared→Prop} (h:Q (w.params.followText "set-order") s):wpAny (model prog w) A setsByText Q E s:=by
 unfold setsByText
 exact wpAny_bind (wpAny_askSetting (wpAny_pure h))
end
end STb
namespace STb
open PySem PySem.SetTable PyProof.Rows
abbrev qi3 (first:Value) (i:Nat) (S:Addr) (n ep:Nat):Obj:={ cls := .type "set_iterator",data := .fields #[first,.int i 0,.ref S,.int n 0,.int ep 0] }
abbrev qeD (es:Array (Int×Value)) (ep:Nat) (t:SetTable):Obj:={ cls := .type "set",dict:=none,data := .set es ep t }
section
variable {prog:Program} {w:World} {A:Around} {E:Value→Shared→Prop} {s:Shared} {I S:Addr} {es:Array (Int×Value)} {ep:Nat} {t:SetTable}
theorem qch {Q:Array (Int×Value)→Shared→Prop} (ho:s.heap.get? S=some (qeD es ep t)) (hf:t.fits es.size=true) (h:Q es s):wpAny (model prog w) A (setEntries S) Q E s:=by
 unfold setEntries
 exact wpAny_bind (wpAny_setState_of ho rfl hf (wpAny_pure h))
end
end STb
namespace STb
open PySem PySem.SetTable PyProof.Rows
section
variable {prog:Program} {w:World} {A:Around} {E:Value→Shared→Prop} {s:Shared} {I S:Addr} {es:Array (Int×Value)} {ep:Nat} {t:SetTable}
theorem qle {α:Type} {Q:α→Shared→Prop} {E':Value→Shared→Prop} (hh:A.handled=none)
   (h:∀h' e,(∀b o,s.heap.get? b=some o→h'.get? b=some o)→Shared.TypeIs { s with heap:=h' } (.ref e) "StopIteration" → E' (.ref e) { s with heap:=h' }) :
   wpAny (model prog w) A (do raiseNew (←newExc (.type "StopIteration") []):Sem α) Q E' s:=by
 refine wpAny_bind ?_
 simp only [newExc,newTuple]
 refine wpAny_bind (wpAny_newObj_type ?_ (by size_fits))
 refine wpAny_bind (m:=firstArgMember _ _) (wpAny_of_eq (a:=Value.none) (by first | rfl | (simp only [firstArgMember];rfl)) ?_)
 refine wpAny_newObj_type ?_ (by size_fits)
 simp only [raiseNew]
 refine wpAny_bind (wpAny_handled ?_)
 rw [hh]
 refine wpAny_bind (wpAny_pure (wpAny_throw ?_))
 exact h _ _ (fun b o e=>Heap.get?_push_of_some _ (Heap.get?_push_of_some _ e)) ⟨_,Heap.get?_push_size _ rfl,rfl⟩
theorem qhq {slot:Nat} {i:Nat} {Q:Option Value→Shared→Prop} (hh:A.handled=none) (hI:s.heap.get? I=some (qi3 (.int slot 0) i S es.size ep)) (hS:s.heap.get? S=some (qeD es ep t)) (hf:t.fits es.size=true)
   (hn:∀(A':Around) (E':Value→Shared→Prop) (Q':Option (Value×Nat)→Shared→Prop),Q' none s→wpAny (model prog w) A' (setNext S slot i ep) Q' E' s)
   (h:∀h',(∀b o,b≠I→s.heap.get? b=some o→h'.get? b=some o)→Q none { s with heap:=h' }):wpAny (model prog w) A (pyNext (.ref I)) Q E s:=by
 have ty:s.TypeIs (.ref I) "set_iterator" := ⟨_,hI,rfl⟩
 unfold pyNext
 refine wpAny_bind (wpAny_attempt (wpAny_callSpecial?_slot (name:=Str.ofString "__next__") ty qbO (wpAny_call_entry qbO ty qeP ?_ (qgZ _))))
 unfold Builtin.«set_iterator.__next__»
 refine wpAny_bind (m:=slotArgs "__next__" 0 ⟨[.ref I],[]⟩) (wpAny_pure (wpAny_bind (wpAny_fieldsOf hI rfl ?_)))
 refine wpAny_bind (m:=setEntries S) (qch hS hf ?_)
 rw [if_neg (by simp)]
 refine wpAny_bind (m:=setNext S (slot:Int).toNat (i:Int).toNat (ep:Int).toNat) (hn _ _ _ ?_)
 refine wpAny_bind (wpAny_setField hI rfl (by simp) ?_)
 refine qle (by first | exact hh | simp [hh]) fun h' e kp tye=>?_
 refine wpAny_bind (wpAny_isInstance (T := "StopIteration") (b:=true) tye isSubtype_stop ?_)
 exact wpAny_pure (h _ fun b o hb q=>kp b o ((Heap.get?_update_other _ _ (Ne.symm hb)).trans q))
theorem qnA {T:Addr} {qcb:Array Value} {pn:Nat} {i p:Nat} {tk:Tok} {Q:Option Value→Shared→Prop} (hI:s.heap.get? I=some (qi3 (.ref T) i S es.size ep)) (hT:s.heap.get? T=some { cls := .type "tuple",data := .seq qcb pn })
   (hS:s.heap.get? S=some (qeD es ep t)) (hf:t.fits es.size=true) (hp:qcb[i]?=some (.int p tk)) {x:Int×Value} (hx:es[p]?=some x)
   (h:∀h',h'.get? I=some (qi3 (.ref T) (i+1) S es.size ep)→Heap.SameBut I s.heap h'→Q (some x.2) { s with heap:=h' }):wpAny (model prog w) A (pyNext (.ref I)) Q E s:=by
 have ty:s.TypeIs (.ref I) "set_iterator" := ⟨_,hI,rfl⟩
 unfold pyNext
 refine wpAny_bind (wpAny_attempt (wpAny_callSpecial?_slot (name:=Str.ofString "__next__") ty qbO (wpAny_call_entry qbO ty qeP ?_ (qgZ _))))
 unfold Builtin.«set_iterator.__next__»
 refine wpAny_bind (m:=slotArgs "__next__" 0 ⟨[.ref I],[]⟩) (wpAny_pure (wpAny_bind (wpAny_fieldsOf hI rfl ?_)))
 refine wpAny_bind (m:=setEntries S) (qch hS hf ?_)
 rw [if_neg (by simp)]
 refine wpAny_bind (m:=seqItems? (.ref T)) (wpAny_seqItems hT rfl ?_)
 dsimp only
 rw [show qcb[(i:Int).toNat]?=some (.int p tk) from hp]
 dsimp only
 refine wpAny_bind (m:=setNextDrawn S (p:Int).toNat (ep:Int).toNat) ?_
 unfold setNextDrawn
 refine wpAny_bind (wpAny_setState_of hS rfl hf ?_)
 dsimp only
 rw [if_neg (by simp),show es[(p:Int).toNat]?=some x from hx]
 refine wpAny_pure (wpAny_bind (wpAny_setField hI rfl (by simp) ?_))
 have g1:=Heap.get?_update_self (Obj.mapFields (·.setIfInBounds 1 (rawInt ((i:Int)+1)))) hI rfl
 exact wpAny_pure ⟨_,rfl,wpAny_pure (h _ g1 (Heap.SameBut.update ..))⟩
theorem qhT {T:Addr} {qcb:Array Value} {pn:Nat} {i:Nat} {Q:Option Value→Shared→Prop} (hh:A.handled=none) (hI:s.heap.get? I=some (qi3 (.ref T) i S es.size ep)) (hT:s.heap.get? T=some { cls := .type "tuple",data := .seq qcb pn })
   (hS:s.heap.get? S=some (qeD es ep t)) (hf:t.fits es.size=true) (hp:qcb[i]?=none)
   (h:∀h',(∀b o,b≠I→s.heap.get? b=some o→h'.get? b=some o)→Q none { s with heap:=h' }):wpAny (model prog w) A (pyNext (.ref I)) Q E s:=by
 have ty:s.TypeIs (.ref I) "set_iterator" := ⟨_,hI,rfl⟩
 unfold pyNext
 refine wpAny_bind (wpAny_attempt (wpAny_callSpecial?_slot (name:=Str.ofString "__next__") ty qbO (wpAny_call_entry qbO ty qeP ?_ (qgZ _))))
 unfold Builtin.«set_iterator.__next__»
 refine wpAny_bind (m:=slotArgs "__next__" 0 ⟨[.ref I],[]⟩) (wpAny_pure (wpAny_bind (wpAny_fieldsOf hI rfl ?_)))
 refine wpAny_bind (m:=setEntries S) (qch hS hf ?_)
 rw [if_neg (by simp)]
 refine wpAny_bind (m:=seqItems? (.ref T)) (wpAny_seqItems hT rfl ?_)
 dsimp only
 rw [show qcb[(i:Int).toNat]?=none from hp]
 dsimp only
 refine wpAny_bind (wpAny_setField hI rfl (by simp) ?_)
 have g1:=Heap.get?_update_self (Obj.mapFields (·.setIfInBounds 0 (rawInt 0))) hI rfl
 refine wpAny_bind (wpAny_setField g1 rfl (by simp [Obj.mapFields]) ?_)
 refine qle (by first | exact hh | simp [hh]) fun h' e kp tye=>?_
 refine wpAny_bind (wpAny_isInstance (T := "StopIteration") (b:=true) tye isSubtype_stop ?_)
 exact wpAny_pure (h _ fun b o hb q=>kp b o ((Heap.get?_update_other _ _ (Ne.symm hb)).trans ((Heap.get?_update_other _ _ (Ne.symm hb)).trans q)))
theorem qez {slot i:Nat} {Q:Option (Value×Nat)→Shared→Prop} (hS:s.heap.get? S=some (qeD es ep t)) (hf:t.fits es.size=true) (bt:w.params.followText "set-order" = true)
   (h:Q (((pickOrder (w.params.setOrder S ep) es)[i]?).map fun e=>(e.2,slot)) s):wpAny (model prog w) A (setNext S slot i ep) Q E s:=by
 unfold setNext
 refine wpAny_bind (wpAny_setState_of hS rfl hf (wpAny_bind (qdw ?_)))
 rw [bt,if_pos rfl,if_neg (by simp)]
 refine wpAny_bind ?_
 unfold setWalk
 refine wpAny_bind (wpAny_setState_of hS rfl hf (wpAny_bind (qdw ?_)))
 rw [bt,if_pos rfl]
 exact wpAny_bind (wpAny_askSetting (wpAny_pure (wpAny_pure h)))
theorem qdu {slot i:Nat} {Q:Option (Value×Nat)→Shared→Prop} (hS:s.heap.get? S=some (qeD es ep t)) (hf:t.fits es.size=true) (bt:w.params.followText "set-order" = false) (ld:t.led=true) (dr:(!t.plain&&decide (es.size>1))=false)
   (h:Q (match es[SetTable.below t.place slot]?,t.place[SetTable.below t.place slot]? with | some (_,x),some j=>some (x,j+1) | _,_=>none) s):wpAny (model prog w) A (setNext S slot i ep) Q E s:=by
 unfold setNext
 refine wpAny_bind (wpAny_setState_of hS rfl hf (wpAny_bind (qdw ?_)))
 rw [bt,if_neg (by simp)]
 dsimp only
 split
 · rename_i z
   exfalso
   have z':(!t.plain&&decide (es.size>1))=true:=z
   rw [dr] at z'
   cases z'
 · show wpAny (model prog w) A ((if (!t.led&&!es.isEmpty)=true then unsupported "set:maker-not-led" else pure ()) >>= fun _=>pure _) Q E s
   rw [ld,if_neg (by simp)]
   exact wpAny_bind (wpAny_pure (wpAny_pure h))
end
end STb
namespace STb
open PySem PySem.SetTable PyProof.Rows
section
variable {prog:Program} {w:World} {A:Around} {E:Value→Shared→Prop} {s:Shared} {I S:Addr} {es:Array (Int×Value)} {ep:Nat} {t:SetTable}
theorem qnQ {wr:List Addr} {h':Heap} (k:∀b o,b∉wr→s.heap.get? b=some o→h'.get? b=some o):Moved wr Eq s { s with heap:=h' }:=⟨k,rfl,rfl,rfl,Nat.le_refl _⟩
theorem qlx {first:Value} {i n:Nat} {Q:Value→Shared→Prop} (hI:s.heap.get? I=some (qi3 first i S n ep)) (h:Q (.ref I) s):wpAny (model prog w) A (pyIter (.ref I)) Q E s:=by
 have ty:s.TypeIs (.ref I) "set_iterator" := ⟨_,hI,rfl⟩
 have sl:Slot "set_iterator" "__iter__" "set_iterator.__iter__" :=
   Slot.of (owner := "set_iterator") (n := "__iter__") (by (rw [typeLookup_type,builtinLookup_eq_fast]);kernel_rfl) (by decide +kernel) (by decide +kernel) (by decide +kernel) (by first | (exact Or.inl (by decide +kernel)) | (exact Or.inr (by decide +kernel))) (by (rw [isSubtype_type]);kernel_rfl)
 have en:entryFor table "set_iterator.__iter__" = some Builtin.«dict_keyiterator.__iter__»:=entryFor_alias (id' := "dict_keyiterator.__iter__") (by kernel_rfl) (by decide +kernel) (by decide +kernel) (by kernel_rfl)
 refine wpAny_pyIter_slot ty sl (wpAny_call_entry sl ty en ?_ (by unfold argsOk;kernel_rfl))
 unfold Builtin.«dict_keyiterator.__iter__»
 first
   | exact wpAny_bind (wpAny_pure (wpAny_pure ⟨_,rfl, "set_iterator",_,ty,qbO.lookup,h⟩))
   | exact wpAny_pure ⟨_,rfl, "set_iterator",_,ty,qbO.lookup,h⟩
theorem qjx (hh:A.handled=none) (hIS:I≠S) (hf:t.fits es.size=true) (out:List Value) (ho:out.length=es.size) (ok:Nat→Nat→Prop)
   (hn:∀(s:Shared) (A':Around) (E':Value→Shared→Prop) (Q':Option (Value×Nat)→Shared→Prop) (i slot:Nat) (x:Value),s.heap.get? S=some (qeD es ep t)→ok i slot→out[i]?=some x →
     ∃nx,ok (i+1) nx∧(Q' (some (x,nx)) s→wpAny (model prog w) A' (setNext S slot i ep) Q' E' s))
   (he:∀(s:Shared) (A':Around) (E':Value→Shared→Prop) (Q':Option (Value×Nat)→Shared→Prop) (slot:Nat),s.heap.get? S=some (qeD es ep t)→ok es.size slot→Q' none s→wpAny (model prog w) A' (setNext S slot es.size ep) Q' E' s) :
   WalksS prog w A I [I,S] [I] Eq es.size (fun i v=>out[i]?=some v) (fun i s=>(∃slot:Nat,s.heap.get? I=some (qi3 (.int (slot:Int) 0) i S es.size ep)∧ok i slot)∧s.heap.get? S=some (qeD es ep t)) where
 sub:=fun b hb=>by simp at hb;simp [hb]
 grefl:=fun _=>rfl
 gtrans:=fun _ _ _ h1 h2=>h1.trans h2
 frame:=fun i s h' tk st _ k=>by
   obtain ⟨⟨slot,e,o⟩,e2⟩:=st
   exact ⟨⟨slot,k I (by simp) _ e,o⟩,k S (by simp) _ e2⟩
 item:=fun i s Q E hi st q=>by
   obtain ⟨⟨slot,e,o⟩,e2⟩:=st
   have hx:out[i]?=some out[i]:=List.getElem?_eq_getElem (by omega)
   obtain ⟨nx,o',_⟩:=hn s A E (fun _ _=>True) i slot _ e2 o hx
   have hn':∀(A':Around) (E':Value→Shared→Prop) (Q':Option (Value×Nat)→Shared→Prop),∃nx,ok (i+1) nx∧(Q' (some (out[i],nx)) s→wpAny (model prog w) A' (setNext S slot i ep) Q' E' s):=fun A' E' Q'=>hn s A' E' Q' i slot _ e2 o hx
   unfold pyNext
   have ty:s.TypeIs (.ref I) "set_iterator" := ⟨_,e,rfl⟩
   refine wpAny_bind (wpAny_attempt (wpAny_callSpecial?_slot (name:=Str.ofString "__next__") ty qbO (wpAny_call_entry qbO ty qeP ?_ (qgZ _))))
   unfold Builtin.«set_iterator.__next__»
   refine wpAny_bind (m:=slotArgs "__next__" 0 ⟨[.ref I],[]⟩) (wpAny_pure (wpAny_bind (wpAny_fieldsOf e rfl ?_)))
   refine wpAny_bind (m:=setEntries S) (qch e2 hf ?_)
   rw [if_neg (by simp)]
   refine wpAny_bind (m:=setNext S (slot:Int).toNat (i:Int).toNat (ep:Int).toNat) ?_
   obtain ⟨nx,o',go⟩:=hn' _ _ _
   refine go ?_
   refine wpAny_bind (wpAny_setField e rfl (by simp) ?_)
   have g1:=Heap.get?_update_self (Obj.mapFields (·.setIfInBounds 0 (rawInt nx))) e rfl
   refine wpAny_bind (wpAny_setField g1 rfl (by simp [Obj.mapFields]) ?_)
   have g2:=Heap.get?_update_self (Obj.mapFields (·.setIfInBounds 1 (rawInt ((i:Int)+1)))) g1 rfl
   have kp:∀b o,b≠I→s.heap.get? b=some o→((s.heap.update I (Obj.mapFields (·.setIfInBounds 0 (rawInt nx)))).update I (Obj.mapFields (·.setIfInBounds 1 (rawInt ((i:Int)+1))))).get? b=some o:=fun b o hb z =>
     (Heap.get?_update_other _ _ (Ne.symm hb)).trans ((Heap.get?_update_other _ _ (Ne.symm hb)).trans z)
   exact wpAny_pure ⟨_,rfl,wpAny_pure (q _ _ hx ⟨⟨nx,g2,o'⟩,kp S _ (Ne.symm hIS) e2⟩ (qnQ fun b o hb z=>kp b o (fun y=>hb (by simp [y])) z))⟩
 done:=fun s Q E st q=>by
   obtain ⟨⟨slot,e,o⟩,e2⟩:=st
   exact qhq hh e e2 hf (fun A' E' Q' q'=>he s A' E' Q' slot e2 o q') fun h' kp=>q _ (qnQ fun b o hb z=>kp b o (fun y=>hb (by simp [y])) z)
 self:=fun i s Q E st q=>by
   obtain ⟨⟨slot,e,o⟩,e2⟩:=st
   exact qlx e q
theorem qnO {T:Addr} {qcb:List Nat} {pn:Nat} (hh:A.handled=none) (hIS:I≠S) (hIT:I≠T) (hf:t.fits es.size=true) (out:List Value) (hl:qcb.length=es.size) (ho:∀(i p:Nat),qcb[i]?=some p→∃x,es[p]?=some x∧out[i]?=some x.2) :
   WalksS prog w A I [I,S,T] [I] Eq es.size (fun i v=>out[i]?=some v) (fun i s=>s.heap.get? I=some (qi3 (.ref T) i S es.size ep)∧s.heap.get? S=some (qeD es ep t)∧s.heap.get? T=some { cls := .type "tuple",data := .seq (qcb.map fun (p:Nat)=>rawInt p).toArray pn }) where
 sub:=fun b hb=>by simp at hb;simp [hb]
 grefl:=fun _=>rfl
 gtrans:=fun _ _ _ h1 h2=>h1.trans h2
 frame:=fun i s h' tk st _ k=>by
   obtain ⟨e,e2,e3⟩:=st
   exact ⟨k I (by simp) _ e,k S (by simp) _ e2,k T (by simp) _ e3⟩
 item:=fun i s Q E hi st q=>by
   obtain ⟨e,e2,e3⟩:=st
   have hp:qcb[i]?=some qcb[i]:=List.getElem?_eq_getElem (by omega)
   obtain ⟨x,hx,hy⟩:=ho i _ hp
   refine qnA (p:=qcb[i]) (tk:=0) e e3 e2 hf (by rw [List.getElem?_toArray,List.getElem?_map,hp];rfl) hx fun h' g sb=>?_
   exact q _ _ hy ⟨g,sb.extBut _ _ (Ne.symm hIS) e2,sb.extBut _ _ (Ne.symm hIT) e3⟩ (qnQ fun b o hb z=>sb.extBut b o (fun y=>hb (by simp [y])) z)
 done:=fun s Q E st q=>by
   obtain ⟨e,e2,e3⟩:=st
   exact qhT hh e e3 e2 hf (by simp [hl]) fun h' kp=>q _ (qnQ fun b o hb z=>kp b o (fun y=>hb (by simp [y])) z)
 self:=fun i s Q E st q=>qlx st.1 q
end
end STb
namespace STb
open PySem PySem.SetTable PyProof.Rows
section
variable {prog:Program} {w:World} {A:Around} {E:Value→Shared→Prop} {s:Shared} {I S:Addr} {es:Array (Int×Value)} {ep:Nat} {t:SetTable}
theorem qnc {Q:Bool→Shared→Prop} (hS:s.heap.get? S=some (qeD es ep t)) (hf:t.fits es.size=true) (h:Q (!w.params.followText "set-order" && (!t.plain&&decide (es.size>1))) s):wpAny (model prog w) A (setDrawn S) Q E s:=by
 unfold setDrawn
 exact wpAny_bind (wpAny_setState_of hS rfl hf (wpAny_bind (qdw (wpAny_pure h))))
theorem qh2:Slot "set" "__iter__" "set.__iter__" := PySem.F.slot_set_iter
theorem qpk {ns:List Int} {Q:Value→Shared→Prop} (hh:A.handled=none) (r:RS prog w s.heap S ns)
   (h:∀(I:Addr) (fp:List Addr) (n:Nat) (out:List Value) (ms:List Int) (St:Nat→Shared→Prop) (s':Shared),(∀A':Around,A'.handled=none→WalksS prog w A' I fp [I] Eq n (fun i v=>out[i]?=some v) St)→St 0 s'→I∈fp→(∀b∈fp,b<s'.heap.objs.size)→(∀b∈fp,b=S∨s.heap.objs.size≤b)→s.heap.objs.size≤I →
     IntsAre out ms→ms.Perm ns→out.length=n→(∀b o,s.heap.get? b=some o→s'.heap.get? b=some o)→s'.gens=s.gens→s'.os=s.os→s.toks≤s'.toks→Q (.ref I) s') :
   wpAny (model prog w) A (pyIter (.ref S)) Q E s:=by
 obtain ⟨es,ep,t,hS,el,pm,bd,ft,rs,ld,nd⟩:=r
 have ty:s.TypeIs (.ref S) "set" := ⟨_,hS,rfl⟩
 have intsOf:∀l:List (Int×Value),(∀e∈l,∃k,kI e.2=some k)→∃ms,IntsAre (l.map (·.2)) ms∧l.map (fun e=>kI e.2)=ms.map some:=fun l=>by
   induction l with
   | nil=>intro _;exact ⟨[],.nil,rfl⟩
   | cons e l ih =>
     intro q
     obtain ⟨ms,a,b⟩:=ih fun x hx=>q x (List.mem_cons_of_mem _ hx)
     obtain ⟨k,hk⟩:=q e List.mem_cons_self
     obtain ⟨hsh,v⟩:=e
     cases v<;>first
       | (rename_i m tk;cases hk;exact ⟨_::ms,.cons _ _ a,by rw [List.map_cons,List.map_cons,b];rfl⟩)
       | cases hk
 have allk:∀e∈es.toList,∃k,kI e.2=some k:=fun e he=>by
   obtain ⟨⟨k,q,_⟩,_⟩:=el e he
   exact ⟨k,qo4.mp q⟩
 have perm:∀l:List (Int×Value),l.Perm es.toList→∃ms,IntsAre (l.map (·.2)) ms∧ms.Perm ns:=fun l hp=>by
   obtain ⟨ms,a,b⟩:=intsOf l fun e he=>allk e (hp.mem_iff.mp he)
   refine ⟨ms,a,?_⟩
   have q:(ms.map some).Perm (ns.map some):=by
     rw [←b]
     exact (hp.map _).trans pm
   have q':=q.map (fun o:Option Int=>o.getD 0)
   simpa [List.map_map,Function.comp_def] using q'
 have plc:t.place.size=es.size:=by
   simp only [SetTable.fits,Bool.and_eq_true,beq_iff_eq] at ft
   exact ft.1
 refine wpAny_pyIter_slot ty qh2 (wpAny_call_entry qh2 ty qj4 ?_ (PySem.F.args_set_iter_1 _))
 unfold Builtin.«frozenset.__iter__»
 refine wpAny_bind (m:=Builtin.Frozenset.slot0 "__iter__" ⟨[.ref S],[]⟩) (wpAny_bind (wpAny_pure (wpAny_pure ?_)))
 refine wpAny_bind (m:=Builtin.Frozenset.sizeOf S) (wpAny_bind (qch hS ft (wpAny_pure ?_)))
 refine wpAny_bind (m:=setDrawn S) (qnc hS ft ?_)
 have hlt:S<s.heap.objs.size:=Heap.lt_size hS
 cases bt:w.params.followText "set-order" with
 | true =>
   rw [if_neg (by simp)]
   refine wpAny_bind (wpAny_pure (wpAny_bind (wpAny_setEpoch_of hS rfl ft (wpAny_bind (wpAny_newObj_type (wpAny_pure ⟨_,rfl, "set_iterator",_,⟨_,Heap.get?_push_size _ rfl,rfl⟩,qbO.lookup,?_⟩))))))
   obtain ⟨ms,a,b⟩:=perm _ (qe6 (w.params.setOrder S ep) es)
   have lo:((pickOrder (w.params.setOrder S ep) es).toList.map (·.2)).length=es.size:=by rw [List.length_map,(qe6 _ _).length_eq,Array.length_toList]
   refine h s.heap.objs.size [s.heap.objs.size,S] es.size _ ms _ _ (fun A' hA'=>qjx (t:=t) (ep:=ep) hA' (Nat.ne_of_gt hlt) ft _ lo (fun _ _=>True) (fun s A' E' Q' i slot x e _ hx=>⟨slot,trivial,fun q=>qez e ft bt ?_⟩) fun s A' E' Q' slot e _ q=>qez e ft bt ?_)
     ⟨⟨0,Heap.get?_push_size _ rfl,trivial⟩,Heap.get?_push_of_some _ hS⟩ (by simp) (fun b hb=>?_) (fun b hb=>(List.mem_cons.mp hb).elim (fun z => .inr (Nat.le_of_eq z.symm)) fun z => .inl (List.mem_singleton.mp z)) (Nat.le_refl _) a b lo (fun b o e=>Heap.get?_push_of_some _ e) rfl rfl (Nat.le_refl _)
   · rw [List.getElem?_map,Array.getElem?_toList] at hx
     cases z:(pickOrder (w.params.setOrder S ep) es)[i]? with
     | none=>rw [z] at hx;cases hx
     | some y=>rw [z] at hx;cases hx;exact q
   · rw [Array.getElem?_eq_none (by rw [←Array.length_toList,(qe6 _ _).length_eq,Array.length_toList];exact Nat.le_refl _)]
     exact q
   · rw [Heap.size_push]
     rcases List.mem_cons.mp hb with z | z
     · rw [z];exact Nat.lt_succ_self _
     · rw [List.mem_singleton.mp z];exact Nat.lt_succ_of_lt hlt
 | false =>
   rw [bt] at ld
   cases dr:(!t.plain&&decide (es.size>1)) with
   | false =>
     rw [if_neg (by simp)]
     refine wpAny_bind (wpAny_pure (wpAny_bind (wpAny_setEpoch_of hS rfl ft (wpAny_bind (wpAny_newObj_type (wpAny_pure ⟨_,rfl, "set_iterator",_,⟨_,Heap.get?_push_size _ rfl,rfl⟩,qbO.lookup,?_⟩))))))
     obtain ⟨ms,a,b⟩:=perm _ (List.Perm.refl _)
     have lo:(es.toList.map (·.2)).length=es.size:=by rw [List.length_map,Array.length_toList]
     refine h s.heap.objs.size [s.heap.objs.size,S] es.size _ ms _ _ (fun A' hA'=>qjx (t:=t) (ep:=ep) hA' (Nat.ne_of_gt hlt) ft _ lo (fun i slot=>SetTable.below t.place slot=i) (fun s A' E' Q' i slot x e o hx=>?_) fun s A' E' Q' slot e o q=>qdu e ft bt ld dr ?_)
       ⟨⟨0,Heap.get?_push_size _ rfl,qj6 rs⟩,Heap.get?_push_of_some _ hS⟩ (by simp) (fun b hb=>?_) (fun b hb=>(List.mem_cons.mp hb).elim (fun z => .inr (Nat.le_of_eq z.symm)) fun z => .inl (List.mem_singleton.mp z)) (Nat.le_refl _) a b lo (fun b o e=>Heap.get?_push_of_some _ e) rfl rfl (Nat.le_refl _)
     · rw [List.getElem?_map,Array.getElem?_toList] at hx
       have hi:i<es.size:=by
         rcases Nat.lt_or_ge i es.size with z | z
         · exact z
         · rw [Array.getElem?_eq_none z] at hx;cases hx
       have hp:t.place[i]?=some t.place[i]:=by simp [plc,hi]
       refine ⟨t.place[i]+1,qkb rs hp,fun q=>qdu e ft bt ld dr ?_⟩
       rw [o,hp]
       cases z:es[i]? with
       | none=>rw [z] at hx;cases hx
       | some y=>rw [z] at hx;cases hx;exact q
     · rw [o,Array.getElem?_eq_none (Nat.le_refl _)]
       exact q
     · rw [Heap.size_push]
       rcases List.mem_cons.mp hb with z | z
       · rw [z];exact Nat.lt_succ_self _
       · rw [List.mem_singleton.mp z];exact Nat.lt_succ_of_lt hlt
   | true =>
     rw [if_pos (by simp)]
     refine wpAny_bind (qmf es.size (List.range es.size) s _ (by simp) fun ys d hp=>wpAny_bind ?_)
     have ly:ys.length=es.size:=by rw [hp.length_eq];simp
     refine wpAny_newTuple ?_ (by rw [List.length_map,ly];exact fits_of_scanBound bd)
     refine wpAny_bind (wpAny_setEpoch_of (o:=qeD es ep t) (Heap.get?_push_of_some _ hS) rfl ft (wpAny_bind (wpAny_newObj_type (wpAny_pure ⟨_,rfl, "set_iterator",_,⟨_,Heap.get?_push_size _ rfl,rfl⟩,qbO.lookup,?_⟩))))
     have hy:∀p∈ys,p<es.size:=fun p hm=>List.mem_range.mp (hp.mem_iff.mp hm)
     have pl:(ys.map fun p=>es.getD p (0,.none)).Perm es.toList:=by
       have e:es.toList=(List.range es.size).map fun p=>es.getD p (0,.none):=by
         refine List.ext_getElem (by simp) fun i h1 h2=>?_
         have:i<es.size:=by simpa using h1
         simp [Array.getD,this]
       rw [e]
       exact hp.map _
     obtain ⟨ms,a,b⟩:=perm _ pl
     have n1:(s.heap.push { cls:=Value.type "tuple",data:=Data.seq (ys.map fun (p:Nat)=>rawInt p).toArray }).objs.size=s.heap.objs.size+1:=Heap.size_push ..
     refine h _ [_,S,s.heap.objs.size] es.size _ ms _ _ (fun A' hA'=>qnO (T:=s.heap.objs.size) (pn:=0) (t:=t) (ep:=ep) hA' (by rw [n1];exact Nat.ne_of_gt (Nat.lt_succ_of_lt hlt)) (by rw [n1];exact Nat.ne_of_gt (Nat.lt_succ_self _)) ft _ ly fun i p hip=>?_)
       ⟨Heap.get?_push_size _ rfl,Heap.get?_push_of_some _ (Heap.get?_push_of_some _ hS),Heap.get?_push_of_some _ (Heap.get?_push_size _ rfl)⟩ (by simp) (fun b hb=>?_) (fun b hb=>?_) (by rw [n1];exact Nat.le_succ _) a b (by rw [List.length_map,List.length_map,ly]) (fun b o e=>Heap.get?_push_of_some _ (Heap.get?_push_of_some _ e)) rfl rfl (Nat.le_refl _)
     · have hm:=hy p (List.mem_of_getElem? hip)
       refine ⟨es[p],by simp [hm],?_⟩
       rw [List.getElem?_map,List.getElem?_map,hip]
       simp [Array.getD,hm]
     · rw [Heap.size_push,n1]
       simp only [List.mem_cons,List.not_mem_nil,or_false] at hb
       rcases hb with z | z | z
       · rw [z]
         exact Nat.lt_of_le_of_lt (Nat.le_of_eq n1) (Nat.lt_succ_self _)
       · rw [z];exact Nat.lt_succ_of_lt (Nat.lt_succ_of_lt hlt)
       · rw [z];exact Nat.lt_succ_of_lt (Nat.lt_succ_self _)
     · simp only [List.mem_cons,List.not_mem_nil,or_false] at hb
       rcases hb with z | z | z
       · right
         rw [z,n1]
         exact Nat.le_succ _
       · exact .inl z
       · exact .inr (Nat.le_of_eq z.symm)
end
end STb
namespace STb
open PySem PySem.SetTable PyProof.Rows
section
variable {prog:Program} {w:World} {A:Around} {E:Value→Shared→Prop} {s:Shared} {I S:Addr}
theorem qgD {out:List Value} {n:Nat} (ho:out.length=n) {acc:Array Value} (h:ItemsOf (fun i v=>out[i]?=some v) acc n):acc.toList=out:=by
 refine List.ext_getElem? fun i=>?_
 rw [Array.getElem?_toList]
 rcases Nat.lt_or_ge i n with z | z
 · have hs:i<acc.size:=by rw [h.1];exact z
   have:=h.2 i acc[i] (by simp [hs])
   rw [this]
   simp [hs]
 · rw [Array.getElem?_eq_none (by rw [h.1];exact z),List.getElem?_eq_none (by omega)]
theorem qiQ {ns:List Int} {Q:List Value→Shared→Prop} (hh:A.handled=none) (r:RS prog w s.heap S ns)
   (h:∀(s':Shared) (vs:List Value) (ms:List Int),IntsAre vs ms→ms.Perm ns→(∀b o,s.heap.get? b=some o→s'.heap.get? b=some o)→s.heap.objs.size<s'.heap.objs.size→s'.gens=s.gens→s'.os=s.os→Q vs s') :
   wpAny (model prog w) A (collect (.ref S)) Q E s:=by
 have hlen:=r.len
 have hSlt:S<s.heap.objs.size:=by
   obtain ⟨es,ep,t,e,_⟩:=r
   exact Heap.lt_size e
 unfold collect
 refine wpAny_bind (wpAny_runValue (codeAny_builtin F.entry_proto_collect ?_))
 rw [Around.under_plainId F.plain_proto_collect _]
 refine wpAny_bind (m:=newList []) (wpAny_newObj_type ?_)
 refine wpAny_pure ⟨plainId_quiet F.plain_list_iadd _,codeAny_builtin F.entry_list_iadd ?_⟩
 rw [Around.under_plainId F.plain_list_iadd _]
 have r1:RS prog w (s.heap.push { cls := .type "list",data := .seq ([]:List Value).toArray }) S ns:=r.keep fun o e=>Heap.get?_push_of_some _ e
 have ty1:Shared.TypeIs { s with heap:=s.heap.push { cls := .type "list",data := .seq ([]:List Value).toArray } } (.ref S) "set" := by
   obtain ⟨es,ep,t,e,_⟩:=r1
   exact ⟨_,e,rfl⟩
 show wpAny _ A.in1 (Builtin.List.listExtendWith (.ref s.heap.objs.size) (.ref S) (.ref s.heap.objs.size)) _ _ _
 unfold Builtin.List.listExtendWith
 refine wpAny_bind (wpAny_typeOf ty1 ?_)
 have d1:Builtin.List.listSameRef (.ref s.heap.objs.size) (.ref S)=false:=by
   simp only [Builtin.List.listSameRef,beq_eq_false_iff_ne,ne_eq]
   exact Nat.ne_of_gt hSlt
 have d2:(Value.type "set" == Value.type "list")=false:=by decide
 have d3:(Value.type "set" == Value.type "tuple")=false:=by decide
 simp only [d1,d2,d3,Bool.or_false,Bool.false_eq_true,if_false]
 have hh1:A.in1.handled=none:=by simp [hh]
 refine wpAny_bind (qpk hh1 r1 fun I fp n out ms St s2 W st0 hI hfp hfs hge hi hp ho kp eg eo htk=>?_)
 have ty2:s2.TypeIs (.ref S) "set" := by
   obtain ⟨es,ep,t,e,_⟩:=r1
   exact ⟨_,kp _ _ e,rfl⟩
 refine wpAny_bind (wpAny_holding ?_)
 unfold Builtin.List.listLengthHint
 refine wpAny_bind (wpAny_specialOf ty2 qhQ ?_)
 refine wpAny_bind (m:=isInstance (.ref S) (.type "set")) (wpAny_isInstance ty2 qiW ?_)
 simp only [Bool.not_true,Bool.false_eq_true,if_false]
 refine wpAny_ite_split (fun _=>?_) (fun z=>absurd (by decide +kernel) z)
 refine wpAny_bind (wpAny_typeOf ty2 (wpAny_pure ?_))
 refine wpAny_ite_split (fun _=>?_) (fun z=>absurd (by decide +kernel) z)
 refine wpAny_bind (wpAny_rule ?_)
 have g0:(s.heap.push { cls := .type "list",data := .seq ([]:List Value).toArray }).get? s.heap.objs.size=some { cls := .type "list",data := .seq ([]:List Value).toArray }:=Heap.get?_push_size _ rfl
 have g2:=kp _ _ g0
 have Iout:s.heap.objs.size<I:=by
   rw [Heap.size_push] at hge
   exact hge
 refine wpAny_bind (m:=Builtin.List.listTouch (.ref s.heap.objs.size)) ?_
 refine wpAny_bind (m:=updateSeq s.heap.objs.size (·.push .none)) (wpAny_updateSeq g2 rfl ?_)
 have g3:=Heap.get?_update_self (Obj.mapSeq (·.push Value.none)) g2 rfl
 refine wpAny_updateSeq g3 rfl ?_
 have g4:=Heap.get?_update_self (Obj.mapSeq (·.pop)) g3 rfl
 have oth:∀b o,b≠s.heap.objs.size→s2.heap.get? b=some o→((s2.heap.update s.heap.objs.size (Obj.mapSeq (·.push Value.none))).update s.heap.objs.size (Obj.mapSeq (·.pop))).get? b=some o :=
   fun b o hb e=>(Heap.get?_update_other _ _ (Ne.symm hb)).trans ((Heap.get?_update_other _ _ (Ne.symm hb)).trans e)
 have hSf:s.heap.objs.size∉fp:=fun z=>by
   rcases hfs _ z with y | y
   · exact absurd hSlt (by rw [←y];exact Nat.lt_irrefl _)
   · rw [Heap.size_push] at y
     exact Nat.lt_irrefl _ y
 have W1:=W A.in1 (by simp [hh])
 have hn:n≤sizeLine:=by
   have e1:=hi.length
   have e2:=hp.length_eq
   have:=fits_of_scanBound hlen
   omega
 refine wpAny_pure ⟨plainId_quiet F.plain_extend_loop _,codeAny_extend_loopS W1 hn _ hSf _ n 0 _ _ _ rfl (Nat.zero_le _) (W1.frame 0 s2 _ s2.toks st0 (Nat.le_refl _) fun b hb o e=>oth b o (fun z=>hSf (z▸hb)) e) g4 (ItemsOf.nil _) fun s3 acc c mv gS hacc=>?_⟩
 refine wpAny_bind (wpAny_load gS (wpAny_pure ?_))
 rw [qgD ho hacc]
 refine h s3 out ms hi hp (fun b o e=>?_) (Heap.lt_size gS) (mv.gens.symm.trans eg) (mv.os.trans eo)
 have hb:b≠s.heap.objs.size:=Nat.ne_of_lt (Heap.lt_size e)
 have hbI:b≠I:=Nat.ne_of_lt (Nat.lt_trans (Heap.lt_size e) Iout)
 exact mv.heap b o (by simp only [List.mem_cons,List.not_mem_nil,or_false,not_or];exact ⟨hb,hbI⟩) (oth b o hb (kp b o (Heap.get?_push_of_some _ e)))
end
end STb
namespace L2
open PySem PySem.Spec PyProof.Rows
abbrev Key:=Sum Int Str
def qka:Key→Value→Bool
 | .inl k,v=>Value.isInt k v
 | .inr x,v=>Value.isStrOf x v
def qs5 (w:World):Key→Int
 | .inl k=>hashInt k
 | .inr x=>hashStr w x
theorem qa0:∀{k:Key} {v:Value},qka k v=true→(∃i t,k=Sum.inl i∧v=Value.int i t)∨(∃x t,k=Sum.inr x∧v=Value.str x t)
 | .inl i,v,h=>by
   obtain ⟨t,e⟩:=Value.isInt_shape (k:=i) (v:=v) h
   exact .inl ⟨i,t,rfl,e⟩
 | .inr x,v,h=>by
   obtain ⟨t,e⟩:=Value.isStrOf_shape (x:=x) (v:=v) h
   exact .inr ⟨x,t,rfl,e⟩
theorem qmg (i:Int) (t:Tok):qka (.inl i) (.int i t)=true:=by simp [qka,Value.isInt]
theorem qlU (x:Str) (t:Tok):qka (.inr x) (.str x t)=true:=by simp [qka,Value.isStrOf]
theorem qqY (a b:Int):decide ((Sum.inl a:Key)=Sum.inl b)=(a==b):=by
 by_cases e:a=b
 · subst e;simp
 · have h:¬(Sum.inl a:Key)=Sum.inl b:=fun q=>e (Sum.inl.inj q)
   rw [decide_eq_false h]
   exact (beq_eq_false_iff_ne.mpr e).symm
theorem qrC (a b:Str):decide ((Sum.inr a:Key)=Sum.inr b)=decide (a=b):=by
 by_cases e:a=b
 · subst e;simp
 · have h:¬(Sum.inr a:Key)=Sum.inr b:=fun q=>e (Sum.inr.inj q)
   rw [decide_eq_false h,decide_eq_false e]
theorem qrH (a:Int) (b:Str):decide ((Sum.inl a:Key)=Sum.inr b)=false:=decide_eq_false (fun q=>nomatch q)
theorem qqy (a:Str) (b:Int):decide ((Sum.inr a:Key)=Sum.inl b)=false:=decide_eq_false (fun q=>nomatch q)
def qa9 (prog:Program) (w:World):PySem.KeyKind prog w Key where
 is:=qka
 hash:=qs5 w
 inj:=fun v a b ha hb=>by
   rcases qa0 ha with ⟨i,t,rfl,rfl⟩ | ⟨x,t,rfl,rfl⟩
   · rcases qa0 hb with ⟨j,u,rfl,e⟩ | ⟨y,u,rfl,e⟩
     · injection e with e1 _;rw [e1]
     · exact nomatch e
   · rcases qa0 hb with ⟨j,u,rfl,e⟩ | ⟨y,u,rfl,e⟩
     · exact nomatch e
     · injection e with e1 _;rw [e1]
 byValue:=fun k v h=>by
   rcases qa0 h with ⟨i,t,rfl,rfl⟩ | ⟨x,t,rfl,rfl⟩<;>rfl
 pyHash:=fun hv h=>by
   rcases qa0 hv with ⟨i,t,rfl,rfl⟩ | ⟨x,t,rfl,rfl⟩
   · exact wpAny_pyHash_int h
   · exact wpAny_pyHash_str h
 eqBool:=fun hu hv h=>by
   rcases qa0 hu with ⟨i,t,rfl,rfl⟩ | ⟨x,t,rfl,rfl⟩
   · rcases qa0 hv with ⟨j,u,rfl,rfl⟩ | ⟨y,u,rfl,rfl⟩
     · rw [qqY] at h;exact wpAny_eqBool_int h
     · rw [qrH] at h;exact SeqAt.EqAt.int_str i t y u _ _ _ _ h
   · rcases qa0 hv with ⟨j,u,rfl,rfl⟩ | ⟨y,u,rfl,rfl⟩
     · rw [qqy] at h;exact SeqAt.EqAt.str_int x t j u _ _ _ _ h
     · rw [qrC] at h;exact wpAny_eqBool_str h
 «strs»:=fun k x t v h=>by
   rcases qa0 h with ⟨i,u,rfl,e⟩ | ⟨y,u,rfl,e⟩
   · exact nomatch e
   · injection e with e1 _
     subst e1
     cases v<;>rfl
theorem qiT (prog:Program) (w:World) (i:Int) (t:Tok):(qa9 prog w).is (.inl i) (.int i t)=true:=qmg i t
theorem qin (prog:Program) (w:World) (x:Str) (t:Tok):(qa9 prog w).is (.inr x) (.str x t)=true:=qlU x t
end L2
namespace L2
open PySem PySem.Spec PyProof.Rows
inductive V where
 | non | bl (b:Bool) | int (i:Int) | str (x:Str) | byt (b:Array UInt8) | flt (b:UInt64) | ref (a:Addr) | ty (n:String)
 deriving DecidableEq
def qbm:V→Value→Prop
 | .non,u=>u=Value.none
 | .bl b,u=>u=Value.bool b
 | .int i,u=>∃t,u=Value.int i t
 | .str x,u=>∃t,u=Value.str x t
 | .byt b,u=>∃t,u=Value.bytes b t
 | .flt b,u=>∃t,u=Value.float b t
 | .ref a,u=>u=Value.ref a
 | .ty n,u=>u=Value.type n
abbrev qbc:List V→List Value→Prop:=Paired qbm
theorem qbc.length {xs:List V} {us:List Value} (r:qbc xs us):xs.length=us.length:=Paired.length r
theorem qbc.get:∀{xs:List V} {us:List Value} {i:Nat} {x:V},qbc xs us→xs[i]?=some x→∃u,us[i]?=some u∧qbm x u
 | _,_,_,_,.nil,e=>by simp at e
 | _,_,0,_,.cons r _,e=>by simp at e;subst e;exact ⟨_,rfl,r⟩
 | _,_,i+1,x,.cons _ t,e=>by
   obtain ⟨u,h1,h2⟩:=qbc.get (i:=i) (x:=x) t (by simpa using e)
   exact ⟨u,by simpa using h1,h2⟩
theorem qbc.set {x:V} {u:Value} (r:qbm x u):∀{xs:List V} {us:List Value} (i:Nat),qbc xs us→qbc (xs.set i x) (us.set i u)
 | _,_,_,.nil => .nil
 | _,_,0,.cons _ t => .cons r t
 | _,_,i+1,.cons q t => .cons q (qbc.set r i t)
theorem qbc.append:∀{xs ys:List V} {us ws:List Value},qbc xs us→qbc ys ws→qbc (xs++ys) (us++ws)
 | _,_,_,_,.nil,s=>s
 | _,_,_,_,.cons r t,s => .cons r (qbc.append t s)
theorem qbc.take:∀{xs:List V} {us:List Value} (n:Nat),qbc xs us→qbc (xs.take n) (us.take n)
 | _,_,0,_ => .nil
 | _,_,_+1,.nil => .nil
 | _,_,n+1,.cons r t => .cons r (qbc.take n t)
theorem qbc.drop:∀{xs:List V} {us:List Value} (n:Nat),qbc xs us→qbc (xs.drop n) (us.drop n)
 | _,_,0,r=>r
 | _,_,_+1,.nil => .nil
 | _,_,n+1,.cons _ t=>qbc.drop n t
def qhR:Option V→Option Value→Prop
 | some v,some u=>qbm v u
 | none,none=>True
 | _,_=>False
def KV {κ:Type}:List (κ×V)→List (κ×Value)→Prop:=Paired fun (p:κ×V) (q:κ×Value)=>p.1=q.1∧qbm p.2 q.2
def kV:Key→V
 | .inl i => .int i
 | .inr x => .str x
inductive HO where
 
 | lst (xs:List V)
 
 | tup (xs:List V)
 
 | dK (kvs:List (Key×V)) | dT (kvs:List (List Key×V))
 
 | set (S:Int→Bool) (n:Nat)
 
 | ins (C dx:Addr) (fs:List (Str×V))
 
 | own (x:Addr)
 
 | xd (fs:List (Str×V))
 
 | met (f x:Addr)
 
 | rng (lo hi:Int)
 
 | frz (o:Obj) (u:HO)
 
 | tbl (ps:Array Value)
 
 | ext (φ:Heap→Prop)
abbrev Hp:=Addr→Option HO
def upd (H:Hp) (a:Addr) (o:HO):Hp:=fun b=>if b=a then some o else H b
theorem qak {H:Hp} {a:Addr} {o:HO}:upd H a o a=some o:=by unfold upd;rw [if_pos rfl]
theorem qax {H:Hp} {a b:Addr} {o:HO} (h:b≠a):upd H a o b=H b:=by unfold upd;rw [if_neg h]
theorem qe9 {H:Hp} {a:Addr} {o u:HO}:upd (upd H a o) a u=upd H a u:=by
 funext b;unfold upd;split<;>rfl
theorem qsy {H:Hp} {a b:Addr} {o u:HO} (h:H a=some o) (h':H b=some u) (d:o≠u):a≠b:=by
 intro e;subst e;rw [h] at h';exact d (Option.some.inj h')
theorem qa8 {H:Hp} {a b:Addr} {o:HO} (h:H a=some o) (h':H b=none):a≠b:=by
 intro e;subst e;rw [h] at h';cases h'
section
variable (P:Program) (w:World)
def qbN (H:Hp) (h:Heap) (a:Addr):HO→Prop
 | .lst xs=>xs.length≤sizeLine∧∃(its:List Value) (n:Nat),qbc xs its∧h.get? a=some { cls := .type "list",data := .seq its.toArray n }
 | .tup xs=>xs.length≤sizeLine∧∃its:List Value,qbc xs its∧IsTup h a its.toArray
 | .dK kvs=>kvs.length≤sizeLine∧(a==sysModules)=false∧∃vs,KV kvs vs∧h.DictOf (qa9 P w) a vs
 | .dT kvs=>kvs.length≤sizeLine∧(a==sysModules)=false∧∃xs:List (List Key×Addr×Value),
     Paired (fun (p:List Key×V) (q:List Key×Addr×Value)=>p.1=q.1∧H q.2.1=some (.tup (p.1.map kV))∧qbm p.2 q.2.2) kvs xs ∧
     ∃o es ep,h.get? a=some o∧o.ExactDict∧o.data = .dict es ep∧es.toList=xs.map (entryOfKey (tupleKind (qa9 P w)))∧(xs.map (·.1)).Nodup
 | .set S n=>h.SetOf (intKind P w) a S n
 | .ins C dx fs=>H dx=some (.own a)∧fs.length≤1000∧dx≠a∧h.get? a=some (PySem.W.instObj C dx) ∧
     ∃mA,h.Ns1 dx mA∧(∀f,qhR (fs.lookup f) (mA f))∧PySem.Within mA (fs.map (·.1))
 | .own _=>∃o,h.get? a=some o
 | .xd fs=>∃mA,h.Ns1 a mA∧∀f,qhR (fs.lookup f) (mA f)
 | .rng lo hi=>∃t u v,h.get? a=some { cls := .type "range",data := .fields #[.int lo t,.int hi u,.int 1 v] }
 | .frz o u=>h.get? a=some o∧qbN H h a u
 | .tbl ps=>h.get? a=some { cls := .none,data := .fields ps }
 | .met f x=>h.get? a=some (PySem.W.methodObj (.ref f) (.ref x))
 | .ext φ=>φ h∧(∃o,h.get? a=some o)∧∀h1 h2:Heap,φ h1→(∀o,h1.get? a=some o→h2.get? a=some o)→φ h2
def HOk (H:Hp) (h:Heap):Prop:=∀a o,H a=some o→qbN P w H h a o
end
section
variable {P:Program} {w:World} {H H':Hp} {h h':Heap} {a:Addr} {o:HO}
theorem qbN.lt (x:qbN P w H h a o):a<h.objs.size:=by
 cases o with
 | lst xs=>obtain ⟨_,_,_,_,e⟩:=x;exact Heap.lt_size e
 | tup xs=>obtain ⟨_,_,_,p⟩:=x;exact p.lt
 | dK kvs=>obtain ⟨_,_,_,_,o,_,_,e,_⟩:=x;exact Heap.lt_size e
 | dT kvs=>obtain ⟨_,_,_,_,o,_,_,e,_⟩:=x;exact Heap.lt_size e
 | set S n=>obtain ⟨o,_,_,_,e,_⟩:=x;exact Heap.lt_size e
 | ins C dx fs=>obtain ⟨_,_,_,e,_⟩:=x;exact Heap.lt_size e
 | own y=>obtain ⟨_,e⟩:=x;exact Heap.lt_size e
 | xd fs=>obtain ⟨_,⟨_,_,_,e,_⟩,_⟩:=x;exact Heap.lt_size e
 | rng lo hi=>obtain ⟨_,_,_,e⟩:=x;exact Heap.lt_size e
 | frz ob u=>obtain ⟨e,_⟩:=x;exact Heap.lt_size e
 | tbl ps=>exact Heap.lt_size (show h.get? a=some _ from x)
 | met f y=>exact Heap.lt_size (show h.get? a=some _ from x)
 | ext φ=>obtain ⟨_,⟨_,e⟩,_⟩:=x;exact Heap.lt_size e
theorem Paired.mapP {α β:Type} {F G:α→β→Prop}:∀{l₁:List α} {l₂:List β},Paired F l₁ l₂→(∀a b,F a b→G a b)→Paired G l₁ l₂
 | _,_,.nil,_ => .nil
 | _,_,.cons r t,f => .cons (f _ _ r) (Paired.mapP t f)
theorem qbN.stay (x:qbN P w H h a o) (k:∀b u,(b=a∨H b=some (.own a))→h.get? b=some u→h'.get? b=some u)
   (ho:∀b,H b=some (.own a)→H' b=some (.own a)) (ht:∀b xs,H b=some (.tup xs)→H' b=some (.tup xs)):qbN P w H' h' a o:=by
 induction o with
 | lst xs=>obtain ⟨z,its,n,r,e⟩:=x;exact ⟨z,its,n,r,k _ _ (.inl rfl) e⟩
 | tup xs=>obtain ⟨z,its,r,ob,e,c⟩:=x;exact ⟨z,its,r,ob,k _ _ (.inl rfl) e,c⟩
 | dK kvs=>obtain ⟨z,y,vs,r,ob,es,ep,e,c⟩:=x;exact ⟨z,y,vs,r,ob,es,ep,k _ _ (.inl rfl) e,c⟩
 | dT kvs =>
   obtain ⟨z,y,xs,r,ob,es,ep,e,c⟩:=x
   exact ⟨z,y,xs,Paired.mapP r fun p q z=>⟨z.1,ht _ _ z.2.1,z.2.2⟩,ob,es,ep,k _ _ (.inl rfl) e,c⟩
 | set S n=>obtain ⟨ob,es,ep,t,e,c⟩:=x;exact ⟨ob,es,ep,t,k _ _ (.inl rfl) e,c⟩
 | ins C dx fs =>
   obtain ⟨d,z,ne,e,mA,⟨od,es,ep,e2,c⟩,r⟩:=x
   exact ⟨ho _ d,z,ne,k _ _ (.inl rfl) e,mA,⟨od,es,ep,k _ _ (.inr d) e2,c⟩,r⟩
 | own y=>obtain ⟨ob,e⟩:=x;exact ⟨ob,k _ _ (.inl rfl) e⟩
 | xd fs=>obtain ⟨mA,⟨od,es,ep,e,c⟩,r⟩:=x;exact ⟨mA,⟨od,es,ep,k _ _ (.inl rfl) e,c⟩,r⟩
 | rng lo hi=>obtain ⟨t,u,v,e⟩:=x;exact ⟨t,u,v,k _ _ (.inl rfl) e⟩
 | frz ob u ih=>obtain ⟨e,q⟩:=x;exact ⟨k _ _ (.inl rfl) e,ih q⟩
 | tbl ps =>
   have e:h.get? a=some { cls := .none,data := .fields ps }:=x
   show h'.get? a=some { cls := .none,data := .fields ps }
   exact k a _ (.inl rfl) e
 | met f y =>
   have e:h.get? a=some (PySem.W.methodObj (.ref f) (.ref y)):=x
   show h'.get? a=some (PySem.W.methodObj (.ref f) (.ref y))
   exact k a _ (.inl rfl) e
 | ext φ=>obtain ⟨p,⟨o,e⟩,st⟩:=x;exact ⟨st _ _ p fun o q=>k _ _ (.inl rfl) q,⟨o,k _ _ (.inl rfl) e⟩,st⟩
theorem HOk.lt (x:HOk P w H h) (e:H a=some o):a<h.objs.size:=(x a o e).lt
theorem HOk.fresh (x:HOk P w H h) (e:h.objs.size≤a):H a=none:=by
 cases q:H a with
 | none=>rfl
 | some u=>exact absurd (Nat.lt_of_lt_of_le (x.lt q) e) (Nat.lt_irrefl _)
theorem HOk.kept (x:HOk P w H h) (k:∀b u,h.get? b=some u→h'.get? b=some u):HOk P w H h':=fun a o e =>
 (x a o e).stay (fun b u _ q=>k b u q) (fun _ q=>q) fun _ _ q=>q
theorem HOk.laid (x:HOk P w H h) (k:∀b u,h.get? b=some u→h'.get? b=some u) (hp:h.objs.size≤a) (new:qbN P w (upd H a o) h' a o):HOk P w (upd H a o) h':=fun b u e=>by
 have hn:=x.fresh hp
 by_cases hb:b=a
 · subst hb;rw [qak] at e;cases e;exact new
 · rw [qax hb] at e
   exact (x b u e).stay (fun c v _ q=>k c v q) (fun c q=>by rw [qax (qa8 q hn)];exact q) fun c xs q=>by rw [qax (qa8 q hn)];exact q
end
def Rd (H:Hp) (a:Addr) (u:HO):Prop:=H a=some u∨∃o,H a=some (.frz o u)
theorem Rd.ok {P:Program} {w:World} {H:Hp} {h:Heap} {a:Addr} {u:HO} (r:Rd H a u) (x:HOk P w H h):qbN P w H h a u:=by
 rcases r with r | ⟨o,r⟩
 · exact x a u r
 · obtain ⟨_,q⟩:=x a _ r
   exact q
def Mut:Option HO→Prop
 | some (.lst _)=>True
 | some (.dK _)=>True
 | some (.dT _)=>True
 | some (.set _ _)=>True
 | some (.ins _ _ _)=>True
 | some (.ext _)=>True
 | _=>False
section
variable {P:Program} {w:World} {H:Hp} {h h':Heap} {x e:Addr} {o':HO}
theorem HOk.write (ok:HOk P w H h) (mu:Mut (H x)) (he:e=x∨H e=some (.own x)) (k:∀b u,b≠e→h.get? b=some u→h'.get? b=some u) (heo:∃u,h'.get? e=some u)
   (new:qbN P w (upd H x o') h' x o'):HOk P w (upd H x o') h':=fun b u q=>by
 have nown:∀c y,H c=some (.own y)→c≠x:=fun c y r z=>by subst z;rw [r] at mu;exact mu
 have ntup:∀c xs,H c=some (.tup xs)→c≠x:=fun c xs r z=>by subst z;rw [r] at mu;exact mu
 by_cases hb:b=x
 · subst hb;rw [qak] at q;cases q;exact new
 · rw [qax hb] at q
   by_cases hbe:b=e
   · have q':H b=some (.own x):=by
       rcases he with z | z
       · exact absurd (hbe.trans z) hb
       · rw [hbe];exact z
     rw [q] at q';cases q'
     obtain ⟨v,hv⟩:=heo
     exact ⟨v,by rw [hbe];exact hv⟩
   · refine (ok b u q).stay (fun c v hc r=>k c v ?_ r) (fun c r=>by rw [qax (nown c b r)];exact r) fun c xs r=>by rw [qax (ntup c xs r)];exact r
     rcases hc with rfl | hc
     · exact hbe
     · rintro rfl
       rcases he with z | z
       · exact nown c b hc z
       · rw [hc] at z;cases z;exact hb rfl
end
structure Un (fs ex:List Addr) (H H':Hp) (h h':Heap):Prop where
 keep:∀b o,h.get? b=some o→H b=none→b∉fs→b∉ex→h'.get? b=some o
 slot:∀b o,h.get? b=some o→H b=none→b∈fs→b∉ex→∃sl,h'.get? b=some { o with slots:=sl }
 free:∀b o,h.get? b=some o→H b=none→b∉ex→H' b=none
 there:∀b o,h.get? b=some o→b∉ex→∃o',h'.get? b=some o'
 tups:∀b xs,H b=some (.tup xs)→H' b=some (.tup xs)
 frzs:∀b o u,H b=some (.frz o u)→H' b=some (.frz o u)
 tbls:∀b ps,H b=some (.tbl ps)→∃qmx,H' b=some (.tbl (ps++qmx))
section
variable {fs fs' ex ex':List Addr} {H H1 H2:Hp} {h h1 h2 h':Heap} {a x e:Addr} {o:HO}
theorem Un.any (u:Un fs ex H H1 h h1) {b:Addr} {ob:Obj} (q:h.get? b=some ob) (n:H b=none) (hx:b∉ex):∃sl,h1.get? b=some { ob with slots:=sl }:=by
 by_cases hb:b∈fs
 · exact u.slot b ob q n hb hx
 · exact ⟨ob.slots,u.keep b ob q n hb hx⟩
theorem Un.kept (k:∀b u,h.get? b=some u→h'.get? b=some u):Un fs ex H H h h' :=
 ⟨fun b ob q _ _ _=>k b ob q,fun b ob q _ _ _=>⟨ob.slots,k b ob q⟩,fun _ _ _ n _=>n,fun b ob q _=>⟨ob,k b ob q⟩,fun _ _ q=>q,fun _ _ _ q=>q,fun _ ps q=>⟨#[],by rw [q];simp⟩⟩
theorem Un.refl:Un fs ex H H h h:=Un.kept fun _ _ q=>q
theorem Un.laid (k:∀b u,h.get? b=some u→h'.get? b=some u) (hp:h.objs.size≤a) (hn:H a=none):Un fs ex H (upd H a o) h h' where
 keep:=fun b u q _ _ _=>k b u q
 slot:=fun b u q _ _ _=>⟨u.slots,k b u q⟩
 free:=fun b u q n _=>by rw [qax (Nat.ne_of_lt (Nat.lt_of_lt_of_le (Heap.lt_size q) hp))];exact n
 there:=fun b u q _=>⟨u,k b u q⟩
 tups:=fun b xs q=>by rw [qax (qa8 q hn)];exact q
 frzs:=fun b u xs q=>by rw [qax (qa8 q hn)];exact q
 tbls:=fun b ps q=>⟨#[],by rw [qax (qa8 q hn),q];simp⟩
theorem Un.write (mu:Mut (H x)) (he:e=x∨H e=some (.own x)) (k:∀b u,b≠e→h.get? b=some u→h'.get? b=some u) (heo:∃u,h'.get? e=some u):Un fs ex H (upd H x o) h h':=by
 have hx:∀b,H b=none→b≠x:=fun b n z=>by subst z;rw [n] at mu;exact mu
 have hb:∀b,H b=none→b≠e:=fun b n z=>by
   subst z
   rcases he with r | r
   · exact hx b n r
   · rw [n] at r;cases r
 have hm:∀b u,H b=some u→¬Mut (some u)→b≠x:=fun b u q nm z=>by subst z;rw [q] at mu;exact nm mu
 refine ⟨fun b u q n _ _=>k b u (hb b n) q,fun b u q n _ _=>⟨u.slots,k b u (hb b n) q⟩,fun b u q n _=>by rw [qax (hx b n)];exact n,fun b u q _=>?_,
   fun b xs q=>by rw [qax (hm b _ q fun z=>z)];exact q,fun b u xs q=>by rw [qax (hm b _ q fun z=>z)];exact q,fun b ps q=>⟨#[],by rw [qax (hm b _ q fun z=>z),q];simp⟩⟩
 by_cases hbe:b=e
 · subst hbe;exact heo
 · exact ⟨u,k b u hbe q⟩
end
def trk (h:Heap) (H:Hp):List Addr:=(List.range h.objs.size).filter fun a=>(H a).isSome
def qm4 (h:Heap) (H:Hp):Heap:=PySem.W.hideAll h (trk h H)
theorem qmj (h:Heap) (H:Hp):(qm4 h H).objs.size=h.objs.size:=PySem.W.hideAll_size _ _
theorem qmM {h:Heap} {H:Hp} {b:Addr} {o:Obj} (e:h.get? b=some o) (n:H b=none):(qm4 h H).get? b=some o :=
 PySem.W.hideAll_get _ e fun hm=>by
   have q:(H b).isSome=true:=(List.mem_filter.mp hm).2
   rw [n] at q;simp at q
theorem qoy {h:Heap} {H:Hp} {b:Addr} {o:Obj} (e:(qm4 h H).get? b=some o):h.get? b=some o∧H b=none:=by
 have e':h.get? b=some o:=PySem.W.of_hideAll (trk h H) e
 refine ⟨e',?_⟩
 cases q:H b with
 | none=>rfl
 | some x =>
   have hm:b∈trk h H:=List.mem_filter.mpr ⟨List.mem_range.mpr (Heap.lt_size e'),by simp [q]⟩
   have z:(qm4 h H).get? b=none:=PySem.W.hideAll_none (trk h H) hm
   rw [z] at e;cases e
def qpb (g h:Heap) (L:Addr):List (Addr×Obj):=(List.range h.objs.size).filterMap fun a=>if a=L∨(g.get? a).isSome=true then none else (h.get? a).map fun o=>(a,o)
def qeE (g h:Heap) (L d:Addr):List (Addr×Obj):=(qpb g h L).filter fun p=>decide (p.1≠d)
end L2
namespace L2
open PySem PySem.Spec PyProof.Rows
structure Mod (K:PySem.W.Frag) (mg:Str→Option Value) (base:Heap):Prop where
 kin:K.In base
 glob:base.Ns mainGlobals mg
 blt:∃mb,base.Ns builtinsNs mb∧∀x:Str,x ≠ "__name__" → mb x=bootBuiltins x
 nolimit:base.NoLimit
structure Cx where
 prog:Program
 w:World
 K:PySem.W.Frag
 mg:Str→Option Value
 base:Heap
 A:Around
 N:List Str
 s₀:Shared
 H₀:Hp
 env:Env
 outer:List Env
 stack:List Env
 ex:List Addr
 fn:Str→Bool
 calm:Bool
 pn:List (Addr×Obj)
 xe:Value→Shared→Prop
def frs (l:List Env):List Addr:=l.filterMap (·.frame)
abbrev Cx.fs (X:Cx):List Addr:=frs X.outer
def Vis (sc:Scope) (x:Str):Prop:=sc.names.lookup x=some .local∨sc.names.lookup x=some .cell∨sc.names.lookup x=some .free
def Loc (sc:Scope) (x:Str):Prop:=sc.names.lookup x=some .local∨sc.names.lookup x=some .cell
def qs3 (env:Env) (h:Heap) (m:Str→Option Value) (x:Str) (u:Value):Prop :=
 (env.kindOf x=some .local∧m x=some u)∨((env.kindOf x=some .cell∨env.kindOf x=some .free)∧∃c,env.cells.lookup x=some c∧h.IsCell c (some u))
structure Cx.Ok (X:Cx):Prop where
 mod:Mod X.K X.mg X.base
 kind:X.env.scope.kind = .function
 glob:X.env.globals=mainGlobals
 blt:X.env.builtins=builtinsNs
 above:X.s₀.heap.objs.size≤X.env.locals
 inj:∀x y c,X.env.cells.lookup x=some c→X.env.cells.lookup y=some c→x=y
 has:∀x,(X.env.kindOf x=some .cell∨X.env.kindOf x=some .free)→∃c,X.env.cells.lookup x=some c
 cab:∀x c,X.fn x=true→X.env.cells.lookup x=some c→X.s₀.heap.objs.size≤c
 hd:X.calm=true→X.A.handled=none
 frames:X.A.frames=some X.stack
 stk:X.stack=X.outer∨(X.stack=X.env::X.outer∧X.env.frame=some X.env.locals)
 exf:∀b∈X.ex,b≠X.env.locals∧∀x c,X.env.cells.lookup x=some c→c≠b
 bs:∀b o,X.base.get? b=some o→X.s₀.heap.get? b=some o∧X.H₀ b=none
 bsz:X.base.objs.size≤X.s₀.heap.objs.size
 noex:∀b o,X.base.get? b=some o→b∉X.ex
 exfs:∀b∈X.ex,b∉X.fs
 funs:X.s₀.heap.FunFrames X.base X.outer
 frf:∀b∈X.fs,X.H₀ b=none
structure Inv (X:Cx) (pins:List (Addr×Obj)) (σ:List (Option V)) (H:Hp) (s:Shared):Prop where
 ok:X.Ok
 os:s.os=X.s₀.os
 bare:AllBare s.gens
 base:Un X.fs X.ex X.H₀ H X.s₀.heap s.heap
 loc:∃m,s.heap.Ns X.env.locals m∧∀(i:Nat) (x:Str) (v:V),X.N[i]?=some x→σ[i]?=some (some v)→Vis X.env.scope x→∃u,qbm v u∧qs3 X.env s.heap m x u
 cell:∀x c,X.env.cells.lookup x=some c→∃v,s.heap.IsCell c v
 free:H X.env.locals=none
 freeC:∀x c,X.env.cells.lookup x=some c→H c=none
 pin:∀p∈X.pn++pins,s.heap.get? p.1=some p.2∧H p.1=none∧p.1≠X.env.locals∧p.1∉X.fs∧∀v,p.2.data ≠ .cell v
 hok:HOk X.prog X.w H s.heap
 len:σ.length=X.N.length
section
variable {X:Cx} {pins:List (Addr×Obj)} {σ:List (Option V)} {H H':Hp} {s:Shared} {h':Heap}
theorem Cx.Ok.nofr (ok:X.Ok) {b:Addr} {o:Obj} (e:X.base.get? b=some o):b∉X.fs:=fun hb=>by
 have:=(ok.funs.mem hb).1
 rw [e] at this;cases this
theorem Inv.bs (I:Inv X pins σ H s):∀b o,X.base.get? b=some o→s.heap.get? b=some o∧H b=none:=fun b o e =>
 ⟨I.base.keep b o (I.ok.bs b o e).1 (I.ok.bs b o e).2 (I.ok.nofr e) (I.ok.noex b o e),I.base.free b o (I.ok.bs b o e).1 (I.ok.bs b o e).2 (I.ok.noex b o e)⟩
theorem Inv.bk (I:Inv X pins σ H s):∀b o,X.base.get? b=some o→s.heap.get? b=some o:=fun b o e=>(I.bs b o e).1
theorem Inv.mod (I:Inv X pins σ H s):Mod X.K X.mg X.base:=I.ok.mod
theorem Inv.kIn (I:Inv X pins σ H s):X.K.In s.heap:=I.ok.mod.kin.keeps I.bk
theorem Inv.fr (I:Inv X pins σ H s):∃m,Fr X.base X.env.locals s.heap m :=
 let ⟨m,hn,_⟩:=I.loc
 ⟨m,hn,I.bk,Nat.le_trans I.ok.bsz I.ok.above⟩
theorem Inv.lt (I:Inv X pins σ H s):X.env.locals<s.heap.objs.size:=let ⟨_,hn,_⟩:=I.loc;hn.lt
theorem Inv.sz (I:Inv X pins σ H s):X.s₀.heap.objs.size≤s.heap.objs.size:=Nat.le_trans I.ok.above (Nat.le_of_lt I.lt)
theorem Inv.nofs (I:Inv X pins σ H s) {a:Addr} (h:s.heap.objs.size≤a):a∉X.fs:=fun hb=>by
 obtain ⟨_,o,ho,_⟩:=I.ok.funs.mem hb
 exact absurd (Nat.lt_of_lt_of_le (Heap.lt_size ho) (Nat.le_trans I.sz h)) (Nat.lt_irrefl _)
theorem Inv.cne (I:Inv X pins σ H s):∀x c,X.env.cells.lookup x=some c→c≠X.env.locals:=fun x c e z=>by
 obtain ⟨v,o,ho,hd⟩:=I.cell x c e
 obtain ⟨m,⟨o',es,ep,ho',hd',_⟩,_⟩:=I.loc
 rw [z,ho'] at ho;cases ho;rw [hd'] at hd;cases hd
theorem Inv.funs (I:Inv X pins σ H s):s.heap.FunFrames X.base X.outer:=by
 have all:∀(l:List Env),(∀b∈frs l,b∈X.fs)→X.s₀.heap.FunFrames X.base l→s.heap.FunFrames X.base l:=by
   intro l
   induction l with
   | nil=>intro _ _;trivial
   | cons env r ih =>
     intro hs hl
     obtain ⟨hk,⟨L,o,hf,hn,ho,hd⟩,hr⟩:=hl
     have hL:L∈X.fs:=hs L (by unfold frs;rw [List.filterMap_cons,hf];exact List.mem_cons_self)
     obtain ⟨sl,e⟩:=I.base.slot L o ho (I.ok.frf L hL) hL fun z=>I.ok.exfs L z hL
     exact ⟨hk,⟨L,_,hf,hn,e,hd⟩,ih (fun b hb=>hs b (by unfold frs;rw [List.filterMap_cons,hf];exact List.mem_cons_of_mem _ hb)) hr⟩
 exact all X.outer (fun _ hb=>hb) I.ok.funs
theorem Inv.stack (I:Inv X pins σ H s):s.heap.FunFrames X.base X.stack:=by
 rcases I.ok.stk with e | ⟨e,hf⟩
 · rw [e];exact I.funs
 · rw [e]
   obtain ⟨m,hn,_⟩:=I.loc
   refine .cons (by rw [I.ok.kind];decide) hf hn ?_ I.funs
   exact Heap.get?_none_of_le (Nat.le_trans I.ok.bsz I.ok.above)
theorem Inv.stkSub (I:Inv X pins σ H s):∀b∈frs X.stack,b∈X.env.locals::X.fs:=fun b hb=>by
 rcases I.ok.stk with e | ⟨e,hf⟩
 · rw [e] at hb;exact List.mem_cons_of_mem _ hb
 · rw [e] at hb
   unfold frs at hb
   rw [List.filterMap_cons,hf] at hb
   exact hb
theorem Inv.stkFree (I:Inv X pins σ H s):∀b∈frs X.stack,H b=none:=fun b hb=>by
 rcases List.mem_cons.mp (I.stkSub b hb) with e | hb
 · rw [e];exact I.free
 · obtain ⟨_,o,ho,_⟩:=I.ok.funs.mem hb
   exact I.base.free b o ho (I.ok.frf b hb) fun z=>I.ok.exfs b z hb
theorem Inv.step {g':Array GenState} {t':Nat} {d':Drawn} {ch:List Addr} (I:Inv X pins σ H s)
   (hch:∀b∈ch,(b∈X.ex∨X.s₀.heap.objs.size≤b)∧b≠X.env.locals∧(∀x c,X.env.cells.lookup x=some c→c≠b)∧∀p∈X.pn++pins,p.1≠b)
   (keep:∀b o,b≠X.env.locals→b∉X.fs→b∉ch→s.heap.get? b=some o→H b=none→h'.get? b=some o)
   (slot:∀b o,b≠X.env.locals→b∈X.fs→b∉ch→s.heap.get? b=some o→H b=none→∃sl,h'.get? b=some { o with slots:=sl }) (free:∀b o,b∉ch→s.heap.get? b=some o→H b=none→H' b=none)
   (there:∀b o,b∉ch→s.heap.get? b=some o→∃o',h'.get? b=some o')
   (tups:∀b xs,H b=some (.tup xs)→H' b=some (.tup xs)) (frzs:∀b o u,H b=some (.frz o u)→H' b=some (.frz o u)) (tbls:∀b ps,H b=some (.tbl ps)→∃qmx,H' b=some (.tbl (ps++qmx)))
   (ns:∀m,s.heap.Ns X.env.locals m→h'.Ns X.env.locals m) (hok:HOk X.prog X.w H' h') (hg:AllBare g') :
   Inv X pins σ H' { s with heap:=h',gens:=g',drawn:=d',toks:=t' }:=by
 have neL:∀b o,X.s₀.heap.get? b=some o→b≠X.env.locals:=fun b o e=>Nat.ne_of_lt (Nat.lt_of_lt_of_le (Heap.lt_size e) I.ok.above)
 have neC:∀b o,X.s₀.heap.get? b=some o→b∉X.ex→b∉ch:=fun b o e hx hb=>by
   rcases (hch b hb).1 with z | z
   · exact hx z
   · exact absurd (Nat.lt_of_lt_of_le (Heap.lt_size e) z) (Nat.lt_irrefl _)
 have cellK:∀x c,X.env.cells.lookup x=some c→∀v,s.heap.IsCell c v→h'.IsCell c v:=fun x c e v ⟨o,ho,hd⟩=>by
   have nch:c∉ch:=fun z=>(hch c z).2.2.1 x c e rfl
   by_cases hc:c∈X.fs
   · obtain ⟨sl,q⟩:=slot c o (I.cne x c e) hc nch ho (I.freeC x c e)
     exact ⟨_,q,hd⟩
   · exact ⟨o,keep c o (I.cne x c e) hc nch ho (I.freeC x c e),hd⟩
 refine ⟨I.ok,I.os,hg,⟨fun b o e n hb hx=>?_,fun b o e n hb hx=>?_,fun b o e n hx=>?_,fun b o e hx=>?_,fun b xs e=>tups b xs (I.base.tups b xs e),fun b o xs e=>frzs b o xs (I.base.frzs b o xs e),fun b ps e=>?_⟩,?_,fun x c e=>?_,?_,fun x c e=>?_,fun p hp=>?_,hok,I.len⟩
 · exact keep b o (neL b o e) hb (neC b o e hx) (I.base.keep b o e n hb hx) (I.base.free b o e n hx)
 · obtain ⟨sl,e1⟩:=I.base.slot b o e n hb hx
   obtain ⟨sl',e2⟩:=slot b _ (neL b o e) hb (neC b o e hx) e1 (I.base.free b o e n hx)
   exact ⟨sl',e2⟩
 · obtain ⟨o',e1⟩:=I.base.there b o e hx
   exact free b o' (neC b o e hx) e1 (I.base.free b o e n hx)
 · obtain ⟨o',e1⟩:=I.base.there b o e hx
   exact there b o' (neC b o e hx) e1
 · obtain ⟨m1,e1⟩:=I.base.tbls b ps e
   obtain ⟨m2,e2⟩:=tbls b _ e1
   exact ⟨m1++m2,by rw [e2,Array.append_assoc]⟩
 · obtain ⟨m,hn,hl⟩:=I.loc
   refine ⟨m,ns m hn,fun i x v e1 e2 e3=>?_⟩
   obtain ⟨u,r,l⟩:=hl i x v e1 e2 e3
   refine ⟨u,r,?_⟩
   rcases l with l | ⟨k,c,e,z⟩
   · exact .inl l
   · exact .inr ⟨k,c,e,cellK x c e _ z⟩
 · obtain ⟨v,z⟩:=I.cell x c e
   exact ⟨v,cellK x c e v z⟩
 · obtain ⟨m,⟨o,_,_,ho,_⟩,_⟩:=I.loc
   exact free _ o (fun z=>(hch _ z).2.1 rfl) ho I.free
 · obtain ⟨v,o,ho,hd⟩:=I.cell x c e
   exact free c o (fun z=>(hch c z).2.2.1 x c e rfl) ho (I.freeC x c e)
 · obtain ⟨e,n,ne,nf,d⟩:=I.pin p hp
   have nch:p.1∉ch:=fun z=>(hch p.1 z).2.2.2 p hp rfl
   exact ⟨keep p.1 p.2 ne nf nch e n,free p.1 p.2 nch e n,ne,nf,d⟩
theorem Inv.un {t':Nat} (I:Inv X pins σ H s) (u:Un X.fs [] H H' s.heap h') (hok:HOk X.prog X.w H' h'):Inv X pins σ H' { s with heap:=h',toks:=t' }:=by
 obtain ⟨m,⟨o,es,ep,ho,r⟩,_⟩:=id I.loc
 obtain ⟨sl,hL⟩:=u.any ho I.free (by simp)
 exact I.step (g':=s.gens) (d':=s.drawn) (ch:=[]) (fun _ z=>nomatch z) (fun b o _ hb _ e n=>u.keep b o e n hb (by simp)) (fun b o _ hb _ e n=>u.slot b o e n hb (by simp)) (fun b o _ e n=>u.free b o e n (by simp)) (fun b o _ e=>u.there b o e (by simp)) u.tups u.frzs u.tbls (fun m' hm=>by
   obtain ⟨o',es',ep',ho',r'⟩:=hm
   rw [ho] at ho';cases ho'
   exact ⟨_,es',ep',hL,r'⟩) hok I.bare
theorem Inv.call {g':Array GenState} {t':Nat} {d':Drawn} {ch:List Addr} (I:Inv X pins σ H s) (u:Un (frs X.stack) ch H H' s.heap h') (hok:HOk X.prog X.w H' h') (hg:AllBare g')
   (hch:∀b∈ch,(b∈X.ex∨X.s₀.heap.objs.size≤b)∧b≠X.env.locals∧(∀x c,X.env.cells.lookup x=some c→c≠b)∧∀p∈X.pn++pins,p.1≠b) :
   Inv X pins σ H' { s with heap:=h',gens:=g',drawn:=d',toks:=t' }:=by
 obtain ⟨m,⟨o,es,ep,ho,r⟩,_⟩:=id I.loc
 obtain ⟨sl,hL⟩:=u.any ho I.free fun z=>(hch _ z).2.1 rfl
 exact I.step (ch:=ch) hch (fun b o hL hb hc e n=>u.keep b o e n (fun z=>(List.mem_cons.mp (I.stkSub b z)).elim hL hb) hc) (fun b o _ _ hc e n=>u.any e n hc) (fun b o hc e n=>u.free b o e n hc) (fun b o hc e=>u.there b o e hc) u.tups u.frzs u.tbls (fun m' hm=>by
   obtain ⟨o',es',ep',ho',r'⟩:=hm
   rw [ho] at ho';cases ho'
   exact ⟨_,es',ep',hL,r'⟩) hok hg
theorem Inv.turned {t':Nat} {it:Addr} (I:Inv X pins σ H s) (k:∀b o,b≠it→s.heap.get? b=some o→h'.get? b=some o) (hn:H it=none) (hL:it≠X.env.locals)
   (h1:it∈X.ex∨X.s₀.heap.objs.size≤it) (h2:∀x c,X.env.cells.lookup x=some c→c≠it) (h3:∀p∈X.pn++pins,p.1≠it):Inv X pins σ H { s with heap:=h',toks:=t' }:=by
 have nit:∀b u,H b=some u→b≠it:=fun b u e z=>by rw [z,hn] at e;cases e
 refine I.step (g':=s.gens) (d':=s.drawn) (ch:=[it]) (fun b hb=>?_) (fun b o _ _ hc e _=>k b o (fun z=>hc (by simp [z])) e) (fun b o _ _ hc e _=>⟨o.slots,k b o (fun z=>hc (by simp [z])) e⟩) (fun _ _ _ _ n=>n)
   (fun b o hc e=>⟨o,k b o (fun z=>hc (by simp [z])) e⟩) (fun _ _ e=>e) (fun _ _ _ e=>e) (fun b ps e=>⟨#[],by rw [e];simp⟩) (fun m hm=>?_) (fun b u e=>?_) I.bare
 · have e:b=it:=by simpa using hb
   subst e
   exact ⟨h1,hL,h2,h3⟩
 · obtain ⟨o,es,ep,ho,r⟩:=hm
   exact ⟨o,es,ep,k _ o (Ne.symm hL) ho,r⟩
 · refine (I.hok b u e).stay (fun c v hc q=>k c v ?_ q) (fun _ q=>q) fun _ _ q=>q
   rcases hc with z | z
   · rw [z];exact nit b u e
   · exact nit c _ z
theorem Inv.tok (I:Inv X pins σ H s) (t:Nat):Inv X pins σ H { s with toks:=t }:=I.un (h':=s.heap) (t':=t) Un.refl I.hok
theorem Inv.kept {t':Nat} (I:Inv X pins σ H s) (k:∀b u,s.heap.get? b=some u→h'.get? b=some u):Inv X pins σ H { s with heap:=h',toks:=t' }:=I.un (Un.kept k) (I.hok.kept k)
theorem Inv.laid {a:Addr} {o:HO} {t':Nat} (I:Inv X pins σ H s) (k:∀b u,s.heap.get? b=some u→h'.get? b=some u) (hp:s.heap.objs.size≤a) (new:qbN X.prog X.w (upd H a o) h' a o) :
 Inv X pins σ (upd H a o) { s with heap:=h',toks:=t' }:=I.un (Un.laid k hp (I.hok.fresh hp)) (I.hok.laid k hp new)
theorem Inv.write {x e:Addr} {o:HO} {t':Nat} (I:Inv X pins σ H s) (mu:Mut (H x)) (he:e=x∨H e=some (.own x)) (k:∀b u,b≠e→s.heap.get? b=some u→h'.get? b=some u) (heo:∃u,h'.get? e=some u)
 (new:qbN X.prog X.w (upd H x o) h' x o):Inv X pins σ (upd H x o) { s with heap:=h',toks:=t' }:=I.un (Un.write mu he k heo) (I.hok.write mu he k heo new)
theorem Inv.weak {σ':List (Option V)} (I:Inv X pins σ H s) (hl:σ'.length=σ.length) (w:∀(i:Nat) v,σ'[i]?=some (some v)→σ[i]?=some (some v)):Inv X pins σ' H s :=
 ⟨I.ok,I.os,I.bare,I.base,let ⟨m,hn,hl'⟩:=I.loc;⟨m,hn,fun i x v e1 e2 e3=>hl' i x v e1 (w i v e2) e3⟩,I.cell,I.free,I.freeC,I.pin,I.hok,hl.trans I.len⟩
theorem Inv.pins_of {pins':List (Addr×Obj)} (I:Inv X pins σ H s) (h:∀p∈pins',s.heap.get? p.1=some p.2∧H p.1=none∧p.1≠X.env.locals∧p.1∉X.fs∧∀v,p.2.data ≠ .cell v):Inv X pins' σ H s :=
 ⟨I.ok,I.os,I.bare,I.base,I.loc,I.cell,I.free,I.freeC,fun p hp=>(List.mem_append.mp hp).elim (fun z=>I.pin p (List.mem_append_left _ z)) (h p),I.hok,I.len⟩
theorem qju {N:List Str} (hN:N.Nodup) {i j:Nat} {x:Str} (a:N[i]?=some x) (b:N[j]?=some x):i=j:=by
 obtain ⟨h1,e1⟩:=List.getElem?_eq_some_iff.mp a
 obtain ⟨h2,e2⟩:=List.getElem?_eq_some_iff.mp b
 exact (List.getElem_inj hN).mp (e1.trans e2.symm)
theorem qmn {M:Model} {A:Around} {E:Value→Shared→Prop} {i:Nat} {x:Str} {v:V} {u:Value} {Q:Unit→Shared→Prop} (I:Inv X pins σ H s) (hN:X.N.Nodup) (hi:X.N[i]?=some x) (hx:Loc X.env.scope x) (r:qbm v u)
   (h:∀s',Inv X pins (σ.set i (some v)) H s'→(∃a,Heap.SameBut a s.heap s'.heap∧(a=X.env.locals∨X.env.cells.lookup x=some a))→Q () s') (hf:X.fn x=true∨X.env.scope.names.lookup x=some .local:=by first | exact .inl rfl | exact .inr rfl | assumption):wpAny M A (storeName X.env x u) Q E s:=by
 obtain ⟨m,hn,hl⟩:=id I.loc
 have hcls:(X.env.scope.kind == .class||(X.env.scope.kind == .module&&X.env.locals != X.env.globals))=false:=by rw [I.ok.kind];rfl
 have hiσ:i<σ.length:=by rw [I.len];exact (List.getElem?_eq_some_iff.mp hi).1
 have cne:=I.cne
 have tracked:∀{a:Addr} {h':Heap},(∃o,s.heap.get? a=some o∧H a=none)→Heap.SameBut a s.heap h'→HOk X.prog X.w H h':=fun {a h'} ha hs b ob e=>by
   obtain ⟨_,_,hfree⟩:=ha
   refine (I.hok b ob e).stay (fun c w' hc q=>(hs.2 c ?_).trans q) (fun _ q=>q) fun _ _ q=>q
   rintro rfl
   rcases hc with rfl | hc
   · rw [hfree] at e;cases e
   · rw [hfree] at hc;cases hc
 rcases hx with hk | hk
 · refine wpAny_storeName_local hk hn (fun h' hn' hs=>?_) hcls
   obtain ⟨oL,_,_,hoL,_⟩:=id hn
   refine h _ ⟨I.ok,I.os,I.bare,⟨fun b o e n hb hx=>?_,fun b o e n hb hx=>?_,I.base.free,fun b o e hx=>?_,I.base.tups,I.base.frzs,I.base.tbls⟩,⟨_,hn',fun j y v' e1 e2 e3=>?_⟩,fun y c e=>?_,I.free,I.freeC,fun p hp=>?_,tracked ⟨oL,hoL,I.free⟩ hs,by simpa using I.len⟩ ⟨_,hs,.inl rfl⟩
   · exact (hs.2 b (Nat.ne_of_lt (Nat.lt_of_lt_of_le (Heap.lt_size e) I.ok.above))).trans (I.base.keep b o e n hb hx)
   · obtain ⟨sl,e1⟩:=I.base.slot b o e n hb hx
     exact ⟨sl,(hs.2 b (Nat.ne_of_lt (Nat.lt_of_lt_of_le (Heap.lt_size e) I.ok.above))).trans e1⟩
   · obtain ⟨o',e1⟩:=I.base.there b o e hx
     exact ⟨o',(hs.2 b (Nat.ne_of_lt (Nat.lt_of_lt_of_le (Heap.lt_size e) I.ok.above))).trans e1⟩
   · by_cases hj:j=i
     · subst hj
       rw [hi] at e1;cases e1
       rw [List.getElem?_set_self hiσ] at e2
       cases e2
       exact ⟨u,r,.inl ⟨hk,by simp⟩⟩
     · rw [List.getElem?_set_ne (Ne.symm hj)] at e2
       obtain ⟨u',r',q⟩:=hl j y v' e1 e2 e3
       refine ⟨u',r',?_⟩
       rcases q with ⟨k,e⟩ | ⟨k,c,e,z⟩
       · refine .inl ⟨k,?_⟩
         have:y≠x:=fun e=>hj (qju hN e1 (e▸hi))
         simp [this,e]
       · exact .inr ⟨k,c,e,z.sameBut hs (cne y c e)⟩
   · obtain ⟨w',z⟩:=I.cell y c e
     exact ⟨w',z.sameBut hs (cne y c e)⟩
   · obtain ⟨e,n,ne,nf,d⟩:=I.pin p hp
     exact ⟨(hs.2 p.1 ne).trans e,n,ne,nf,d⟩
 · have hfn:X.fn x=true:=by
     rcases hf with z | z
     · exact z
     · rw [z] at hk;cases hk
   obtain ⟨c,hc⟩:=I.ok.has x (.inl hk)
   obtain ⟨w',z⟩:=I.cell x c hc
   refine wpAny_storeName_cell I.ok.kind hk hc z (fun h' hc' hs=>?_)
   obtain ⟨oc,hoc,hocd⟩:=id z
   refine h { s with heap:=h' } ⟨I.ok,I.os,I.bare,⟨fun b o e n hb hx=>?_,fun b o e n hb hx=>?_,I.base.free,fun b o e hx=>?_,I.base.tups,I.base.frzs,I.base.tbls⟩,⟨m,hn.sameBut hs (Ne.symm (cne x c hc)),fun j y v' e1 e2 e3=>?_⟩,fun y c' e=>?_,I.free,I.freeC,fun p hp=>?_,tracked ⟨oc,hoc,I.freeC x c hc⟩ hs,by simpa using I.len⟩ ⟨c,hs,.inr hc⟩
   · exact (hs.2 b (Nat.ne_of_lt (Nat.lt_of_lt_of_le (Heap.lt_size e) (I.ok.cab x c hfn hc)))).trans (I.base.keep b o e n hb hx)
   · obtain ⟨sl,e1⟩:=I.base.slot b o e n hb hx
     exact ⟨sl,(hs.2 b (Nat.ne_of_lt (Nat.lt_of_lt_of_le (Heap.lt_size e) (I.ok.cab x c hfn hc)))).trans e1⟩
   · obtain ⟨o',e1⟩:=I.base.there b o e hx
     exact ⟨o',(hs.2 b (Nat.ne_of_lt (Nat.lt_of_lt_of_le (Heap.lt_size e) (I.ok.cab x c hfn hc)))).trans e1⟩
   · by_cases hj:j=i
     · subst hj
       rw [hi] at e1;cases e1
       rw [List.getElem?_set_self hiσ] at e2
       cases e2
       exact ⟨u,r,.inr ⟨.inl hk,c,hc,hc'⟩⟩
     · rw [List.getElem?_set_ne (Ne.symm hj)] at e2
       obtain ⟨u',r',q⟩:=hl j y v' e1 e2 e3
       refine ⟨u',r',?_⟩
       rcases q with q | ⟨k,c',e,z'⟩
       · exact .inl q
       · refine .inr ⟨k,c',e,z'.sameBut hs ?_⟩
         rintro rfl
         exact hj (qju hN e1 (I.ok.inj _ _ _ e hc▸hi))
   · by_cases hcc:c'=c
     · subst hcc;exact ⟨_,hc'⟩
     · obtain ⟨w2,z2⟩:=I.cell y c' e
       exact ⟨w2,z2.sameBut hs hcc⟩
   · obtain ⟨e,n,ne,nf,d⟩:=I.pin p hp
     refine ⟨(hs.2 p.1 ?_).trans e,n,ne,nf,d⟩
     intro q
     rw [q,hoc] at e
     have q':oc=p.2:=Option.some.inj e
     exact d w' (by rw [←q'];exact hocd)
theorem qgN {M:Model} {A:Around} {E:Value→Shared→Prop} {i:Nat} {x:Str} {v:V} {u:Value} {Q:Unit→Shared→Prop} (I:Inv X pins σ H s) (hN:X.N.Nodup) (hi:X.N[i]?=some x) (hx:Loc X.env.scope x) (r:qbm v u)
   (h:∀s',Inv X pins (σ.set i (some v)) H s'→Q () s') (hf:X.fn x=true∨X.env.scope.names.lookup x=some .local:=by first | exact .inl rfl | exact .inr rfl | assumption):wpAny M A (storeName X.env x u) Q E s :=
 qmn I hN hi hx r (fun s' I' _=>h s' I') hf
theorem Inv.call' {s':Shared} {ch:List Addr} (I:Inv X pins σ H s) (ho:s'.os=s.os) (u:Un (frs X.stack) ch H H' s.heap s'.heap) (hok:HOk X.prog X.w H' s'.heap) (hg:AllBare s'.gens)
   (hch:∀b∈ch,(b∈X.ex∨X.s₀.heap.objs.size≤b)∧b≠X.env.locals∧(∀x c,X.env.cells.lookup x=some c→c≠b)∧∀p∈X.pn++pins,p.1≠b):Inv X pins σ H' s':=by
 obtain ⟨h',g',d',t',o'⟩:=s'
 have e:o'=s.os:=ho
 subst e
 exact I.call (g':=g') (t':=t') (d':=d') u hok hg hch
end
abbrev XK:=Value→Option Addr→Hp→Prop
abbrev St:=List (Option V)
abbrev VK:=V→Hp→Prop
abbrev TE:=St→Hp→VK→Prop
abbrev TT:=St→Hp→(Bool→Hp→Prop)→Prop
abbrev TA:=St→Hp→(List V→Hp→Prop)→Prop
structure qf0 where
 nx:St→Hp→Prop
 rt:VK
 bk:St→Hp→Prop:=fun _ _=>False
 ct:St→Hp→Prop:=fun _ _=>False
abbrev TS:=qf0→St→Hp→Prop
def EP (X:Cx) (pins:List (Addr×Obj)) (σ:St) (Q:VK) (u:Value) (s':Shared):Prop:=∃v H',Inv X pins σ H' s'∧qbm v u∧Q v H'
def TP (X:Cx) (pins:List (Addr×Obj)) (σ:St) (Q:Bool→Hp→Prop) (b:Bool) (s':Shared):Prop:=∃H',Inv X pins σ H' s'∧Q b H'
def AP (X:Cx) (pins:List (Addr×Obj)) (σ:St) (Q:List V→Hp→Prop) (us:List Value) (s':Shared):Prop:=∃vs H',Inv X pins σ H' s'∧qbc vs us∧Q vs H'
def SP (X:Cx) (pins:List (Addr×Obj)) (D:qf0) (f:Flow) (s':Shared):Prop :=
 match f with
 | .next=>∃σ' H',Inv X pins σ' H' s'∧D.nx σ' H'
 | .brk=>∃σ' H',Inv X pins σ' H' s'∧D.bk σ' H'
 | .cont=>∃σ' H',Inv X pins σ' H' s'∧D.ct σ' H'
 | .ret u=>∃v σ' H',Inv X pins σ' H' s'∧qbm v u∧D.rt v H'
def PE (X:Cx) (e:Expr) (t:TE):Prop :=
 ∀(pins:List (Addr×Obj)) (s:Shared) (σ:St) (H:Hp) (Q:VK),Inv X pins σ H s→t σ H Q→wpAny (model X.prog X.w) X.A (eval e X.env) (EP X pins σ Q) X.xe s
def PT (X:Cx) (e:Expr) (t:TT):Prop :=
 ∀(pins:List (Addr×Obj)) (s:Shared) (σ:St) (H:Hp) (Q:Bool→Hp→Prop),Inv X pins σ H s→t σ H Q→wpAny (model X.prog X.w) X.A (isTrue e X.env (eval e X.env)) (TP X pins σ Q) X.xe s
def PW (X:Cx) (e:Expr) (t:TT):Prop :=
 ∀(whole:Sem Value) (pins:List (Addr×Obj)) (s:Shared) (σ:St) (H:Hp) (Q:Bool→Hp→Prop),Inv X pins σ H s→t σ H Q→wpAny (model X.prog X.w) X.A (isTrue e X.env whole) (TP X pins σ Q) X.xe s
theorem PW.pt {X:Cx} {e:Expr} {t:TT} (h:PW X e t):PT X e t:=h _
def PA (X:Cx) (es:List Expr) (t:TA):Prop :=
 ∀(pos:Pos) (pins:List (Addr×Obj)) (s:Shared) (σ:St) (H:Hp) (Q:List V→Hp→Prop),Inv X pins σ H s→t σ H Q→wpAny (model X.prog X.w) X.A (spliced (backTo pos (starEach es X.env))) (AP X pins σ Q) X.xe s
def PS (X:Cx) (st:Stmt) (t:TS):Prop :=
 ∀(pins:List (Addr×Obj)) (s:Shared) (σ:St) (H:Hp) (D:qf0),Inv X pins σ H s→t D σ H→wpAny (model X.prog X.w) X.A (exec st X.env) (SP X pins D) X.xe s
def PSs (X:Cx) (st:List Stmt) (t:TS):Prop :=
 ∀(pins:List (Addr×Obj)) (s:Shared) (σ:St) (H:Hp) (D:qf0),Inv X pins σ H s→t D σ H→wpAny (model X.prog X.w) X.A (execs st X.env) (SP X pins D) X.xe s
theorem thn {α:Type} {t:Sem α} {Q Q':α→Shared→Prop} {M:Model} {A:Around} {E:Value→Shared→Prop} {s:Shared} (h:wpAny M A t Q E s) (hQ:∀a s,Q a s→Q' a s):wpAny M A t Q' E s:=wpAny_mono h hQ fun _ _ x=>x
end L2
namespace L2
open PySem PySem.Spec PyProof.Rows
section
variable {X:Cx}
theorem bin {a b:Expr} {ta tb:TE} (ha:PE X a ta) (hb:PE X b tb) {pins:List (Addr×Obj)} {s:Shared} {σ:St} {H:Hp} {R:V→V→Hp→Prop} (I:Inv X pins σ H s) (h:ta σ H fun x H1=>tb σ H1 fun y H2=>R x y H2)
   {α:Type} {Q:α→Shared→Prop} {f:Value→Value→Sem α}
   (hf:∀v u s2 x y H2,Inv X pins σ H2 s2→qbm x v→qbm y u→R x y H2→wpAny (model X.prog X.w) X.A (f v u) Q X.xe s2) :
   wpAny (model X.prog X.w) X.A (eval a X.env) (fun v s₁=>wpAny (model X.prog X.w) X.A (eval b X.env) (fun u s₂=>wpAny (model X.prog X.w) X.A (f v u) Q X.xe s₂) X.xe s₁) X.xe s:=by
 refine thn (ha pins s σ H _ I h) fun v s1 ⟨x,H1,I1,r1,q1⟩=>?_
 refine thn (hb pins s1 σ H1 _ I1 q1) fun u s2 ⟨y,H2,I2,r2,q2⟩=>?_
 exact hf v u s2 x y H2 I2 r1 r2 q2
def qso (i:Nat):TE:=fun σ H Q=>∃v,σ[i]?=some (some v)∧Q v H
def tC (v:V):TE:=fun _ H Q=>Q v H
theorem qq7 {i:Nat} {x:Str} {pos:Pos} (hN:X.N[i]?=some x) (hv:Vis X.env.scope x) (hd:(x==("__debug__" : Str))=false:=by decide) (hcd:(x==("__classdict__" : Str))=false:=by decide):PE X (.Name x pos) (qso i):=by
 intro pins s σ H Q I h
 obtain ⟨v,e,h⟩:=h
 obtain ⟨m,hn,hl⟩:=I.loc
 obtain ⟨u,r,l⟩:=hl i x v hN e hv
 have fin:EP X pins σ Q u s:=⟨v,H,I,r,h⟩
 rcases l with ⟨hk,hm⟩ | ⟨hk,c,hc,hcell⟩
 · exact wpAny_Name (wpAny_loadName_local I.ok.kind hk hn hm fin) hd
 · rcases hk with hk | hk
   · exact wpAny_Name (wpAny_loadName_cell I.ok.kind hk hc hcell fin) hd
   · exact wpAny_Name (wpAny_loadName_free I.ok.kind hk hc hcell fin hcd) hd
theorem qag {i j pos}:PE X (.Constant (.int i) j pos) (tC (.int i)):=fun _ _ _ H _ I h=>wpAny_Constant_int ⟨.int i,H,I.tok _,⟨_,rfl⟩,h⟩
theorem qcN {b j pos}:PE X (.Constant (.bool b) j pos) (tC (.bl b)):=fun _ _ _ H _ I h=>Constant_bool ⟨.bl b,H,I,rfl,h⟩
theorem qex {j pos}:PE X (.Constant .none j pos) (tC .non):=fun _ _ _ H _ I h=>Constant_none ⟨.non,H,I,rfl,h⟩
theorem qaj {x j pos}:PE X (.Constant (.str x) j pos) (tC (.str x)):=fun _ _ _ H _ I h=>Calls.Constant_str ⟨.str x,H,I.tok _,⟨_,rfl⟩,h⟩
def Gl (X:Cx) (x:Str):Prop:=X.env.kindOf x=some .globalImplicit
theorem qit {E:Value→Shared→Prop} {pins:List (Addr×Obj)} {s:Shared} {σ:St} {H:Hp} {x:Str} {u:Value} {pos:Pos} {Q:Value→Shared→Prop} (I:Inv X pins σ H s) (hg:Gl X x) (hm:X.mg x=some u) (h:Q u s)
   (hd:(x==("__debug__" : Str))=false:=by decide):wpAny (model X.prog X.w) X.A (eval (.Name x pos) X.env) Q E s :=
 Calls.Name_function_global I.ok.kind hg (Calls.loadGlobal_global (by rw [I.ok.glob];exact I.mod.glob.keeps I.bk) hm h) hd
theorem qhB {E:Value→Shared→Prop} {pins:List (Addr×Obj)} {s:Shared} {σ:St} {H:Hp} {x:Str} {u:Value} {pos:Pos} {Q:Value→Shared→Prop} (I:Inv X pins σ H s) (hg:Gl X x) (hm:X.mg x=none) (hv:bootBuiltins x=some u) (h:Q u s)
   (hn:x ≠ "__name__" := by decide) (hd:(x==("__debug__" : Str))=false:=by decide):wpAny (model X.prog X.w) X.A (eval (.Name x pos) X.env) Q E s:=by
 obtain ⟨mb,h1,h2⟩:=I.mod.blt
 exact Calls.Name_function_global I.ok.kind hg (Calls.loadGlobal_builtin (by rw [I.ok.glob];exact I.mod.glob.keeps I.bk) hm (by rw [I.ok.blt];exact h1.keeps I.bk) ((h2 x hn).trans hv) h) hd
theorem qea {x:Str} {v:V} {u:Value} {pos:Pos} (hg:Gl X x) (hm:X.mg x=some u) (r:qbm v u) (hd:(x==("__debug__" : Str))=false:=by decide):PE X (.Name x pos) (tC v) :=
 fun _ _ _ H _ I h=>qit I hg hm ⟨v,H,I,r,h⟩ hd
theorem qe7 {x:Str} {v:V} {u:Value} {pos:Pos} (hg:Gl X x) (hm:X.mg x=none) (hv:bootBuiltins x=some u) (r:qbm v u) (hn:x ≠ "__name__" := by decide) (hd:(x==("__debug__" : Str))=false:=by decide):PE X (.Name x pos) (tC v) :=
 fun _ _ _ H _ I h=>qhB I hg hm hv ⟨v,H,I,r,h⟩ hn hd
variable {a b:Expr} {ta tb:TE} {pos:Pos}
def PC (X:Cx) (op:CmpOp) (a b:Expr) (t:TE):Prop :=
 ∀(pins:List (Addr×Obj)) (s:Shared) (σ:St) (H:Hp) (Q:VK),Inv X pins σ H s→t σ H Q →
   wpAny (model X.prog X.w) X.A (eval a X.env) (fun v s₁=>wpAny (model X.prog X.w) X.A (eval b X.env) (fun u s₂=>wpAny (model X.prog X.w) X.A (compareOp op v u) (EP X pins σ Q) X.xe s₂) X.xe s₁) X.xe s
theorem qmO (b:Expr) {op:CmpOp} (h:op ≠ .In) (h2:op ≠ .NotIn):behindInMarks op b=false:=by
 have e1:(op==CmpOp.In)=false:=by cases op<;>first | rfl | exact absurd rfl h
 have e2:(op==CmpOp.NotIn)=false:=by cases op<;>first | rfl | exact absurd rfl h2
 cases b<;>simp [behindInMarks,e1,e2]
def tB (t:TE):TT:=fun σ H Q=>t σ H fun x H1=>∃c,x = .bl c∧Q c H1
theorem qlO {op:CmpOp} {t:TE} (h:PC X op a b t) (h1:behindInMarks op b=false:=by first | exact qmO _ (by decide) (by decide) | rfl):PT X (.Compare a [op] [b] pos) (tB t):=by
 intro pins s σ H Q I hw
 refine wpAny_isTrue_Compare1 (thn (h pins s σ H _ I hw) fun v s1 h1=>thn h1 fun u s2 h2=>thn h2 fun c s3 ⟨x,H1,I1,r1,q1⟩=>?_) h1
 obtain ⟨d,rfl,q⟩:=q1
 cases r1
 exact wpAny_truthy_bool ⟨H1,I1,q⟩
theorem qa3 {e:Expr} {t:TE} (h:PE X e t) (he:∀whole,isTrue e X.env whole=(do let v ←whole;standAt e.pos;holding [v] (truthy v)):=by intro _;rfl):PT X e (tB t):=by
 intro pins s σ H Q I hw
 refine isTrue_plain (thn (h pins s σ H _ I hw) fun v s1 ⟨x,H1,I1,r1,q1⟩=>?_) (he _)
 obtain ⟨d,rfl,q⟩:=q1
 cases r1
 exact wpAny_truthy_bool ⟨H1,I1,q⟩
variable {tA tB':TT} {qeE:List Expr}
def qsU (t u:TT):TT:=fun σ H Q=>t σ H fun c H1=>if c=true then u σ H1 Q else Q false H1
def tOr (t u:TT):TT:=fun σ H Q=>t σ H fun c H1=>if c=true then Q true H1 else u σ H1 Q
def qsT (t:TT):TT:=fun σ H Q=>t σ H fun c H1=>Q (!c) H1
theorem qfT (ha:PT X a tA):PW X (.BoolOp .And [a] pos) tA:=by
 intro wh pins s σ H Q I h
 refine isTrue_and (thn (ha pins s σ H Q I h) fun c s1 e=>?_)
 cases c with
 | true=>exact isTrue_and_nil e
 | false=>exact e
theorem qfG (ha:PT X a tA):PW X (.BoolOp .Or [a] pos) tA:=by
 intro wh pins s σ H Q I h
 refine isTrue_or (thn (ha pins s σ H Q I h) fun c s1 e=>?_)
 cases c with
 | false=>exact isTrue_or_nil e
 | true=>exact e
theorem qht (ha:PT X a tA) (hb:PW X (.BoolOp .And (b::qeE) pos) tB'):PW X (.BoolOp .And (a::b::qeE) pos) (qsU tA tB'):=by
 intro wh pins s σ H Q I h
 refine isTrue_and (thn (ha pins s σ H _ I h) fun c s1 ⟨H1,I1,q1⟩=>?_)
 cases c with
 | true=>exact hb wh pins s1 σ H1 Q I1 q1
 | false=>exact ⟨H1,I1,q1⟩
theorem qhJ (ha:PT X a tA) (hb:PW X (.BoolOp .Or (b::qeE) pos) tB'):PW X (.BoolOp .Or (a::b::qeE) pos) (tOr tA tB'):=by
 intro wh pins s σ H Q I h
 refine isTrue_or (thn (ha pins s σ H _ I h) fun c s1 ⟨H1,I1,q1⟩=>?_)
 cases c with
 | true=>exact ⟨H1,I1,q1⟩
 | false=>exact hb wh pins s1 σ H1 Q I1 q1
theorem qbk (ha:PT X a tA):PT X (.UnaryOp .Not a pos) (qsT tA):=by
 intro pins s σ H Q I h
 exact isTrue_not (ha pins s σ H (fun c H1=>Q (!c) H1) I h)
def qry (ta tb:TE):TE:=fun σ H Q=>ta σ H fun x H1=>∃c,x = .bl c∧if c=true then tb σ H1 Q else Q (.bl false) H1
def qth (ta tb:TE):TE:=fun σ H Q=>ta σ H fun x H1=>∃c,x = .bl c∧if c=true then Q (.bl true) H1 else tb σ H1 Q
def qql (ta:TE):TE:=fun σ H Q=>ta σ H fun x H1=>∃c,x = .bl c∧Q (.bl (!c)) H1
theorem qjJ {op} {t:TE} (h:PE X a t):PE X (.BoolOp op [a] pos) t:=fun pins s σ H Q I hw=>BoolOp_one (h pins s σ H Q I hw)
theorem qjm (ha:PE X a ta) (hb:PE X (.BoolOp .And (b::qeE) pos) tb):PE X (.BoolOp .And (a::b::qeE) pos) (qry ta tb):=by
 intro pins s σ H Q I h
 refine BoolOp_and (thn (ha pins s σ H _ I h) fun v s1 ⟨x,H1,I1,r1,q1⟩=>?_)
 obtain ⟨c,rfl,q1⟩:=q1
 cases r1
 refine wpAny_truthy_bool ?_
 cases c with
 | true=>exact hb pins s1 σ H1 Q I1 q1
 | false=>exact ⟨.bl false,H1,I1,rfl,q1⟩
theorem qrA (ha:PE X a ta):PE X (.UnaryOp .Not a pos) (qql ta):=by
 intro pins s σ H Q I h
 refine UnaryOp_ (thn (ha pins s σ H _ I h) fun v s1 ⟨x,H1,I1,r1,q1⟩=>?_)
 obtain ⟨c,rfl,q1⟩:=q1
 cases r1
 exact not_of (wpAny_truthy_bool ⟨.bl (!c),H1,I1,rfl,q1⟩)
def tIf (t:TT) (ta tb:TE):TE:=fun σ H Q=>t σ H fun c H1=>if c=true then ta σ H1 Q else tb σ H1 Q
theorem qjz {c:Expr} (hc:PT X c tA) (ha:PE X a ta) (hb:PE X b tb):PE X (.IfExp c a b pos) (tIf tA ta tb):=by
 intro pins s σ H Q I h
 refine wpAny_IfExp (thn (hc pins s σ H _ I h) fun d s1 ⟨H1,I1,q1⟩=>?_)
 cases d with
 | true=>exact ha pins s1 σ H1 Q I1 q1
 | false=>exact hb pins s1 σ H1 Q I1 q1
end
end L2
namespace L2
open PySem PySem.Spec PyProof.Rows
def SqL (K:PySem.W.Frag) (H:Hp) (a:Addr) (xs:List V):Prop :=
 Rd H a (.lst xs) ∨
   ∃(o:Obj) (its:Array Value) (n:Nat),K.lookup a=some o∧o.cls = .type "list" ∧ o.dict=none∧o.data = .seq its n∧its.size≤sizeLine∧qbc xs its.toList
def SqT (K:PySem.W.Frag) (H:Hp) (a:Addr) (xs:List V):Prop :=
 Rd H a (.tup xs) ∨
   ∃(o:Obj) (its:Array Value) (n:Nat),K.lookup a=some o∧o.cls = .type "tuple" ∧ o.data = .seq its n∧its.size≤sizeLine∧qbc xs its.toList
def qtd:Value→Option V
 | .none=>some .non
 | .bool b=>some (.bl b)
 | .int i _=>some (.int i)
 | .str x _=>some (.str x)
 | .bytes b _=>some (.byt b)
 | .float b _=>some (.flt b)
 | .ref a=>some (.ref a)
 | .type n=>some (.ty n)
 | _=>none
theorem qbm.abs {x:V} {u:Value} (r:qbm x u):qtd u=some x:=by
 cases x with
 | non=>cases r;rfl
 | bl _=>cases r;rfl
 | int _=>obtain ⟨t,rfl⟩:=r;rfl
 | str _=>obtain ⟨t,rfl⟩:=r;rfl
 | byt _=>obtain ⟨t,rfl⟩:=r;rfl
 | flt _=>obtain ⟨t,rfl⟩:=r;rfl
 | ref _=>cases r;rfl
 | ty _=>cases r;rfl
theorem qbm.inj {x y:V} {u:Value} (r:qbm x u) (q:qbm y u):x=y:=Option.some.inj (r.abs.symm.trans q.abs)
theorem qbc.inj:∀{xs ys:List V} {us:List Value},qbc xs us→qbc ys us→xs=ys
 | _,_,_,.nil,.nil=>rfl
 | _,_,_,.cons r t,.cons r' t'=>by rw [r.inj r',qbc.inj t t']
section
variable {X:Cx} {pins:List (Addr×Obj)} {σ:St} {H:Hp} {s:Shared} {a:Addr} {xs ys:List V}
theorem SqL.of {K:PySem.W.Frag} (h:H a=some (.lst xs)):SqL K H a xs := .inl (.inl h)
theorem SqT.of {K:PySem.W.Frag} (h:H a=some (.tup xs)):SqT K H a xs := .inl (.inl h)
theorem Inv.list (I:Inv X pins σ H s) (h:SqL X.K H a xs):∃its:List Value,qbc xs its∧PlainL s.heap a its.toArray∧xs.length≤sizeLine:=by
 rcases h with h | ⟨o,its,n,hk,hc,hd,hs,hz,r⟩
 · obtain ⟨z,its,n,r,e⟩:=h.ok I.hok
   exact ⟨its,r,⟨_,n,e,rfl,rfl,rfl⟩,z⟩
 · refine ⟨its.toList,r,⟨o,n,I.kIn a o hk,hc,hd,by simpa using hs⟩,?_⟩
   have e:=r.length
   simp only [Array.length_toList] at e
   omega
theorem Inv.tuple (I:Inv X pins σ H s) (h:SqT X.K H a xs):∃its:List Value,qbc xs its∧IsTup s.heap a its.toArray∧xs.length≤sizeLine:=by
 rcases h with h | ⟨o,its,n,hk,hc,hs,hz,r⟩
 · obtain ⟨z,its,r,p⟩:=h.ok I.hok
   exact ⟨its,r,p,z⟩
 · refine ⟨its.toList,r,⟨o,I.kIn a o hk,hc,n,by simpa using hs⟩,?_⟩
   have e:=r.length
   simp only [Array.length_toList] at e
   omega
theorem Inv.list_inj (I:Inv X pins σ H s) (h:SqL X.K H a xs) (h':SqL X.K H a ys):xs=ys:=by
 obtain ⟨its,r,⟨o,n,e,_,_,d⟩,_⟩:=I.list h
 obtain ⟨its',r',⟨o',n',e',_,_,d'⟩,_⟩:=I.list h'
 rw [e] at e';cases e'
 rw [d] at d'
 injection d' with d1 _
 have:its=its':=by simpa using congrArg Array.toList d1
 subst this
 exact r.inj r'
theorem Inv.tuple_inj (I:Inv X pins σ H s) (h:SqT X.K H a xs) (h':SqT X.K H a ys):xs=ys:=by
 obtain ⟨its,r,⟨o,e,_,n,d⟩,_⟩:=I.tuple h
 obtain ⟨its',r',⟨o',e',_,n',d'⟩,_⟩:=I.tuple h'
 rw [e] at e';cases e'
 rw [d] at d'
 injection d' with d1 _
 have:its=its':=by simpa using congrArg Array.toList d1
 subst this
 exact r.inj r'
end
abbrev Cx.wish (X:Cx) (E:Value→Shared→Prop):Cx:={ X with xe:=E }
abbrev Cx.nox (X:Cx):Cx:=X.wish fun _ _=>False
theorem Cx.Ok.wish {X:Cx} (ok:X.Ok) (E:Value→Shared→Prop):(X.wish E).Ok :=
 ⟨ok.mod,ok.kind,ok.glob,ok.blt,ok.above,ok.inj,ok.has,ok.cab,ok.hd,ok.frames,ok.stk,ok.exf,ok.bs,ok.bsz,ok.noex,ok.exfs,ok.funs,ok.frf⟩
theorem Cx.Ok.unwish {X:Cx} {E:Value→Shared→Prop} (ok:(X.wish E).Ok):X.Ok :=
 ⟨ok.mod,ok.kind,ok.glob,ok.blt,ok.above,ok.inj,ok.has,ok.cab,ok.hd,ok.frames,ok.stk,ok.exf,ok.bs,ok.bsz,ok.noex,ok.exfs,ok.funs,ok.frf⟩
section
variable {X:Cx} {pins:List (Addr×Obj)} {σ:St} {H:Hp} {s:Shared} {E:Value→Shared→Prop}
theorem Inv.wish (I:Inv X pins σ H s) (E:Value→Shared→Prop):Inv (X.wish E) pins σ H s:=⟨I.ok.wish E,I.os,I.bare,I.base,I.loc,I.cell,I.free,I.freeC,I.pin,I.hok,I.len⟩
theorem Inv.unwish (I:Inv (X.wish E) pins σ H s):Inv X pins σ H s:=⟨I.ok.unwish,I.os,I.bare,I.base,I.loc,I.cell,I.free,I.freeC,I.pin,I.hok,I.len⟩
theorem SP.unwish {D:qf0} {f:Flow} {s':Shared} (h:SP (X.wish E) pins D f s'):SP X pins D f s':=by
 cases f with
 | next=>obtain ⟨σ',H',I,q⟩:=h;exact ⟨σ',H',I.unwish,q⟩
 | brk=>obtain ⟨σ',H',I,q⟩:=h;exact ⟨σ',H',I.unwish,q⟩
 | cont=>obtain ⟨σ',H',I,q⟩:=h;exact ⟨σ',H',I.unwish,q⟩
 | ret u=>obtain ⟨v,σ',H',I,r,q⟩:=h;exact ⟨v,σ',H',I.unwish,r,q⟩
theorem PSs.nox {st:List Stmt} {t:TS} (h:PSs X.nox st t):PSs X st t:=fun pins s σ H D I hw =>
 wpAny_mono (h pins s σ H D (I.wish _) hw) (fun _ _ q=>q.unwish) fun _ _ z=>False.elim z
end
section
variable {X:Cx} {st:Stmt} {qeE:List Stmt} {t u:TS} {e:Expr} {te:TE} {pos:Pos}
def qky:TS:=fun D σ H=>D.nx σ H
def ql2 (t u:TS):TS:=fun D σ H=>t { D with nx:=u D } σ H
theorem qal:PSs X [] qky:=fun _ _ σ H _ I h=>wpAny_execs_nil ⟨σ,H,I,h⟩
theorem qad (h1:PS X st t) (h2:PSs X qeE u):PSs X (st::qeE) (ql2 t u):=by
 intro pins s σ H D I h
 refine wpAny_execs_cons (thn (h1 pins s σ H { D with nx:=u D } I h) fun f s1 q=>?_)
 cases f with
 | next =>
   obtain ⟨σ',H',I',q⟩:=q
   exact h2 pins s1 σ' H' D I' q
 | ret v=>exact q
 | brk=>exact q
 | cont=>exact q
theorem qaf (h1:PS X st t):PSs X [st] t:=by
 intro pins s σ H D I h
 refine wpAny_execs_cons (thn (h1 pins s σ H D I h) fun f s1 q=>?_)
 cases f with
 | next=>exact wpAny_execs_nil q
 | ret v=>exact q
 | brk=>exact q
 | cont=>exact q
theorem Inv.quiet {pins:List (Addr×Obj)} {σ:St} {H:Hp} {s:Shared} (I:Inv X pins σ H s):interactive X.env=false:=by simp [interactive,I.ok.kind]
def qoR (te:TE):TS:=fun D σ H=>te σ H fun _ H1=>D.nx σ H1
theorem qdp (he:PE X e te) (hs:swapsWith e none pos.line X.env=pure false:=by rfl):PS X (.Expr e pos) (qoR te):=by
 intro pins s σ H D I h
 exact wpAny_Expr_any (thn (he pins s σ H _ I h) fun v s1 ⟨x,H1,I1,r1,q1⟩=>⟨σ,H1,I1,q1⟩) I.quiet hs
def qsq (te:TE):TS:=fun D σ H=>te σ H D.rt
theorem qai (he:PE X e te):PS X (.Return (some e) pos) (qsq te):=by
 intro pins s σ H D I h
 exact wpAny_Return_some (thn (he pins s σ H _ I h) fun v s1 ⟨x,H1,I1,r1,q1⟩=>⟨x,σ,H1,I1,r1,q1⟩)
def qsx:TS:=fun D _ H=>D.rt .non H
def qrr (c:TT) (t u:TS):TS:=fun D σ H=>c σ H fun b H1=>if b=true then t D σ H1 else u D σ H1
theorem qaz {c:Expr} {a b:List Stmt} {tc:TT} (hc:PT X c tc) (ha:PSs X a t) (hb:PSs X b u):PS X (.If c a b pos) (qrr tc t u):=by
 intro pins s σ H D I h
 refine wpAny_If (thn (hc pins s σ H _ I h) fun d s1 ⟨H1,I1,q1⟩=>?_)
 cases d with
 | true=>exact ha pins s1 σ H1 D I1 q1
 | false=>exact hb pins s1 σ H1 D I1 q1
def qn5:TS:=fun _ _ _=>False
theorem qbs:PS X st qn5:=fun _ _ _ _ _ _ h=>h.elim
end
abbrev TG:=V→St→Hp→(St→Hp→Prop)→Prop
abbrev TGs:=List V→St→Hp→(St→Hp→Prop)→Prop
def PG (X:Cx) (target:Expr) (t:TG):Prop :=
 ∀(pins:List (Addr×Obj)) (s:Shared) (σ:St) (H:Hp) (v:V) (u:Value) (Q:St→Hp→Prop),Inv X pins σ H s→qbm v u→t v σ H Q →
   wpAny (model X.prog X.w) X.A (assign target X.env u) (fun _ s'=>∃σ' H',Inv X pins σ' H' s'∧Q σ' H') X.xe s
def PGs (X:Cx) (ts:List Expr) (t:TGs):Prop :=
 ∀(pins:List (Addr×Obj)) (s:Shared) (σ:St) (H:Hp) (vs:List V) (us:List Value) (Q:St→Hp→Prop),Inv X pins σ H s→qbc vs us→t vs σ H Q →
   wpAny (model X.prog X.w) X.A (assignInOrder ((assignEach ts X.env).map (·.2)) us) (fun _ s'=>∃σ' H',Inv X pins σ' H' s'∧Q σ' H') X.xe s
abbrev qr8:=V→V→V→Hp→(Hp→Prop)→Prop
def qsY (X:Cx) (t:qr8):Prop :=
 ∀(pins:List (Addr×Obj)) (s:Shared) (σ:St) (H:Hp) (o i v:V) (ov iv u:Value) (Q:Hp→Prop),Inv X pins σ H s→qbm o ov→qbm i iv→qbm v u→t o i v H Q →
   wpAny (model X.prog X.w) X.A (setItem ov iv u) (fun _ s'=>∃H',Inv X pins σ H' s'∧Q H') X.xe s
section
variable {X:Cx} {pos:Pos}
def qhN (i:Nat):TG:=fun v σ H Q=>Q (σ.set i (some v)) H
theorem qau {i:Nat} {x:Str} (hN:X.N.Nodup) (hi:X.N[i]?=some x) (hx:Loc X.env.scope x) (hf:X.fn x=true∨X.env.scope.names.lookup x=some .local:=by first | exact .inl rfl | exact .inr rfl | assumption):PG X (.Name x pos) (qhN i):=by
 intro pins s σ H v u Q I r h
 exact wpAny_assign_Name (qgN I hN hi hx r (fun s' I'=>⟨_,H,I',h⟩) hf)
def qsn:TGs:=fun vs σ H Q=>vs=[]∧Q σ H
def qnh (t:TG) (u:TGs):TGs:=fun vs σ H Q=>∃v r,vs=v::r∧t v σ H fun σ' H'=>u r σ' H' Q
theorem qlW:PGs X [] qsn:=by
 intro pins s σ H vs us Q I r h
 obtain ⟨e,h⟩:=h
 subst e
 cases r
 exact assignInOrder_nil ⟨σ,H,I,h⟩
theorem qeH {e:Expr} {es:List Expr} {t:TG} {u:TGs} (h1:PG X e t) (h2:PGs X es u)
   (hs:(assignEach (e::es) X.env).map (·.2)=assign e X.env::(assignEach es X.env).map (·.2):=by rfl):PGs X (e::es) (qnh t u):=by
 intro pins s σ H vs us Q I r h
 obtain ⟨v,vr,e1,h⟩:=h
 subst e1
 cases r with
 | cons r rr =>
   rw [hs]
   refine assignInOrder_cons (thn (h1 pins s σ H _ _ _ I r h) fun _ s1 ⟨σ1,H1,I1,q1⟩=>?_)
   exact h2 pins s1 σ1 H1 _ _ Q I1 rr q1
def qsd (K:PySem.W.Frag) (n:Nat) (t:TGs):TG:=fun v σ H Q=>∃a xs,v = .ref a∧SqT K H a xs∧xs.length=n∧t xs σ H Q
theorem qol {es:List Expr} {k:Nat} {t:TGs} {n:Nat} (hc:X.calm=true) (h:PGs X es t)
   (hn:(assignEach es X.env).length=n:=by rfl) (hst:(assignEach es X.env).findIdx? (·.1)=none:=by rfl):PG X (.Tuple es k pos) (qsd X.K n t):=by
 intro pins s σ H v u Q I r hw
 obtain ⟨a,xs,e1,hq,hl,hw⟩:=hw
 subst e1
 cases r
 obtain ⟨its,rv,ht,hz⟩:=I.tuple hq
 refine assign_Tuple_tuple (I.ok.hd hc) ht (by simp [hn,←hl,rv.length]) hst fun h' hx=>?_
 have I1:Inv X pins σ H { s with heap:=h' }:=I.kept (t':=s.toks) fun b o e=>hx b o (Nat.ne_of_lt (Heap.lt_size e)) e
 exact h pins _ σ H xs _ Q I1 (by simpa using rv) hw
def qsX (to ti:TE) (t:qr8):TG:=fun v σ H Q=>to σ H fun o H1=>ti σ H1 fun i H2=>t o i v H2 fun H3=>Q σ H3
theorem qqI {o i:Expr} {to ti:TE} {t:qr8} (ho:PE X o to) (hi:PE X i ti) (hs:qsY X t)
   (ha:∀v,assign (.Subscript o i pos) X.env v=(do
     let ov ←holding [v] (eval o X.env)
     let iv ←holding [v,ov] (eval i X.env)
     standAt pos
     holding [v,ov,iv] (setItem ov iv v)
     release [v,ov,iv] []):=by intro _;rfl):PG X (.Subscript o i pos) (qsX to ti t):=by
 intro pins s σ H v u Q I r h
 rw [ha]
 refine wpAny_bind (wpAny_holding (thn (ho pins s σ H _ I h) fun ov s1 ⟨x,H1,I1,r1,q1⟩=>?_))
 refine wpAny_bind (wpAny_holding (thn (hi pins s1 σ H1 _ I1 q1) fun iv s2 ⟨y,H2,I2,r2,q2⟩=>?_))
 refine wpAny_bind (wpAny_standAt (wpAny_bind (wpAny_holding (thn (hs pins s2 σ H2 x y v ov iv u _ I2 r1 r2 r q2) fun _ s3 ⟨H3,I3,q3⟩=>?_))))
 exact wpAny_release ⟨σ,H3,I3,q3⟩
def qra (te:TE) (g:TG):TS:=fun D σ H=>te σ H fun x H1=>g x σ H1 D.nx
theorem qqU {tg e:Expr} {te:TE} {g:TG} (he:PE X e te) (hg:PG X tg g) (hs:swapsWithSole [tg] e pos.line X.env=pure false:=by rfl) (hw:swappedStores [tg] e X.env=pure none:=by rfl)
   (h1:(assignEach [tg] X.env).map (·.2)=[assign tg X.env]:=by rfl):PS X (.Assign [tg] e pos) (qra te g):=by
 intro pins s σ H D I h
 refine wpAny_Assign_stores (thn (he pins s σ H _ I h) fun v s1 ⟨x,H1,I1,r1,q1⟩=>?_) hs hw
 rw [h1]
 exact thn (hg pins s1 σ H1 x v _ I1 r1 q1) fun _ s2 q=>q
theorem qay {i:Nat} {x:Str} {e:Expr} {te:TE} {pos':Pos} (hN:X.N.Nodup) (hi:X.N[i]?=some x) (hx:Loc X.env.scope x) (he:PE X e te) (hs:swapsWith e (some (.Name x pos')) pos.line X.env=pure false:=by rfl) (hf:X.fn x=true∨X.env.scope.names.lookup x=some .local:=by first | exact .inl rfl | exact .inr rfl | assumption) :
   PS X (.Assign [.Name x pos'] e pos) (qra te (qhN i)):=by
 intro pins s σ H D I h
 refine wpAny_Assign_Name (thn (he pins s σ H _ I h) fun v s1 ⟨y,H1,I1,r1,q1⟩=>?_) hs
 exact qgN I1 hN hi hx r1 (fun s2 I2=>⟨_,H1,I2,q1⟩) hf
def qta (i j:Nat) (ta:TA):TS:=fun D σ H=>ta σ H fun vs H1=>∃v w,vs=[v,w]∧D.nx ((σ.set i (some v)).set j (some w)) H1
end
section
variable {X:Cx} {pos:Pos}
def qjP (c:TT) (tb:TS):TS:=fun D σ H=>∃W:Nat→St→Hp→Prop,(∃m,W m σ H)∧∀m σ H,W m σ H →
 c σ H fun b H1=>if b=true then ∃N:St→Hp→Prop,(∀σ' H',N σ' H'→∃m',m'<m∧W m' σ' H')∧tb { D with nx:=N,ct:=N,bk:=D.nx } σ H1 else D.nx σ H1
theorem qnw {c:Expr} {body:List Stmt} {tc:TT} {tb:TS} (hp:PassesOwn (model X.prog X.w) X.A X.env X.xe) (hc:PT X c tc) (hb:PSs X body tb):PS X (.While c body [] pos) (qjP tc tb):=by
 intro pins s σ H D I h
 obtain ⟨W,⟨m0,w0⟩,turn⟩:=h
 refine wpAny_While (codeAny_whileLoop (fun n s'=>∃σ' H',Inv X pins σ' H' s'∧W n σ' H') ?_ m0 ⟨σ,H,I,w0⟩)
 rintro n s1 ⟨σ1,H1,I1,w1⟩
 refine wpAny_passesOwn hp (thn (hc pins s1 σ1 H1 _ I1 (turn n σ1 H1 w1)) fun b s2 ⟨H2,I2,q2⟩=>?_)
 cases b with
 | true =>
   obtain ⟨N,hN,q2⟩:=q2
   rw [if_pos rfl]
   refine wpAny_passesOwn hp (thn (hb pins s2 σ1 H2 _ I2 q2) fun f s3 q3=>?_)
   cases f with
   | next =>
     obtain ⟨σ3,H3,I3,n3⟩:=q3
     obtain ⟨m',hm,w3⟩:=hN σ3 H3 n3
     exact ⟨m',hm,σ3,H3,I3,w3⟩
   | cont =>
     obtain ⟨σ3,H3,I3,n3⟩:=q3
     obtain ⟨m',hm,w3⟩:=hN σ3 H3 n3
     exact ⟨m',hm,σ3,H3,I3,w3⟩
   | brk=>exact q3
   | ret v=>exact q3
 | false =>
   rw [if_neg Bool.false_ne_true]
   exact wpAny_execs_nil ⟨σ1,H2,I2,q2⟩
end
structure It where
 go:Nat→Hp→Prop
 yld:Nat→Hp→V→Hp→Prop
 stop:Nat→Hp→Prop
def qkr (X:Cx) (pins:List (Addr×Obj)) (H:Hp) (b:Addr):Prop :=
 H b=none∧b≠X.env.locals∧b∉X.fs∧(b∈X.ex∨X.s₀.heap.objs.size≤b)∧(∀x c,X.env.cells.lookup x=some c→c≠b)∧∀p∈X.pn++pins,p.1≠b
theorem Inv.fpOk {X:Cx} {pins:List (Addr×Obj)} {σ:St} {H H':Hp} {s:Shared} {b:Addr} (I:Inv X pins σ H s) (hb:s.heap.objs.size≤b) (hn:H' b=none):qkr X pins H' b:=by
 refine ⟨hn,Nat.ne_of_gt (Nat.lt_of_lt_of_le I.lt hb),I.nofs hb,.inr (Nat.le_trans I.sz hb),fun x c e z=>?_,fun p hp z=>?_⟩
 · obtain ⟨v,q⟩:=I.cell x c e
   exact absurd (Nat.lt_of_lt_of_le q.lt (by rw [z];exact hb)) (Nat.lt_irrefl _)
 · exact absurd (Nat.lt_of_lt_of_le (Heap.lt_size (I.pin p hp).1) (by rw [z];exact hb)) (Nat.lt_irrefl _)
structure qpu (P:Program) (w:World) (K:PySem.W.Frag) (tg:Expr) (J:It) (fp:List Addr) (it:Addr) (tn:Nat→Heap→Prop):Prop where
 mem:it∈fp
 obj:∀i h,tn i h→∀b∈fp,∃o,h.get? b=some o∧∀v,o.data ≠ .cell v
 keep:∀i h h',tn i h→(∀b∈fp,∀o,h.get? b=some o→h'.get? b=some o)→tn i h'
 item:∀(X:Cx),X.prog=P→X.w=w→X.K=K→X.calm=true→∀(i:Nat) (pins:List (Addr×Obj)) (s:Shared) (σ:St) (H:Hp) (E:Value→Shared→Prop),Inv X pins σ H s→(∀b∈fp,qkr X pins H b)→tn i s.heap→J.go i H →
   wpAny (model P w) X.A (pyNext (.ref it)) (fun r s1=>∃u,r=some u ∧
     wpAny (model P w) X.A (letOwnedTupleGo tg (.ref it) u) (fun _ s2=>∃x H',Inv X pins σ H' s2∧qbm x u∧J.yld i H x H'∧tn (i+1) s2.heap∧∀b∈fp,H' b=none) E s1) E s
 done:∀(X:Cx),X.prog=P→X.w=w→X.K=K→X.calm=true→∀(i:Nat) (pins:List (Addr×Obj)) (s:Shared) (σ:St) (H:Hp) (E:Value→Shared→Prop),Inv X pins σ H s→(∀b∈fp,qkr X pins H b)→tn i s.heap→J.stop i H →
   wpAny (model P w) X.A (pyNext (.ref it)) (fun r s1=>r=none∧Inv X pins σ H s1) E s
 self:∀(A:Around) (i:Nat) (s:Shared) (Q:Value→Shared→Prop) (E:Value→Shared→Prop),tn i s.heap→Q (.ref it) s→wpAny (model P w) A (pyIter (.ref it)) Q E s
abbrev TI:=St→Hp→(It→Hp→Prop)→Prop
def PIE (X:Cx) (pins:List (Addr×Obj)) (σ:St) (tg:Expr) (R:It→Hp→Prop) (itv:Value) (s2:Shared):Prop :=
 ∃(it:Addr) (fp:List Addr) (tn:Nat→Heap→Prop) (J:It) (H':Hp),itv = .ref it∧Inv X pins σ H' s2∧qpu X.prog X.w X.K tg J fp it tn∧tn 0 s2.heap∧(∀b∈fp,qkr X pins H' b)∧R J H'
def PI (X:Cx) (tg iter:Expr) (wi:TI):Prop :=
 ∀(pins:List (Addr×Obj)) (s:Shared) (σ:St) (H:Hp) (R:It→Hp→Prop),Inv X pins σ H s→wi σ H R →
   wpAny (model X.prog X.w) X.A (eval iter X.env) (fun v s1=>wpAny (model X.prog X.w) X.A (pyIter v) (PIE X pins σ tg R) X.xe s1) X.xe s
theorem qnL {M:Model} {A:Around} {E:Value→Shared→Prop} {s:Shared} {tg:Expr} {it:Addr} {u:Value} {o:Obj} {n:String} {vs:Array Value} {Q:Unit→Shared→Prop} (ho:s.heap.get? it=some o) (hc:o.cls = .type n) (hd:o.data = .fields vs)
   (hn:["enumerate", "zip", "dict_itemiterator", "dict_reverseitemiterator", "odict_iterator", "itertools.zip_longest", "itertools.pairwise"].contains n=false) (hQ:Q () s):wpAny M A (letOwnedTupleGo tg (.ref it) u) Q E s:=by
 unfold letOwnedTupleGo
 cases tg<;>first
   | exact wpAny_pure hQ
   | (cases u<;>first
       | exact wpAny_pure hQ
       | (refine wpAny_bind (wpAny_load ho ?_)
          rw [hc,hd]
          show wpAny M A (if (["enumerate", "zip", "dict_itemiterator", "dict_reverseitemiterator", "odict_iterator", "itertools.zip_longest", "itertools.pairwise"].contains n&&vs[0]?==some (rawInt _))=true then _ else _) Q E s
          rw [if_neg (by intro h;rw [hn,Bool.false_and] at h;cases h)]
          exact wpAny_pure hQ))
def Itl (K:PySem.W.Frag) (a:Addr):It :=
 ⟨fun i H=>∃xs x,SqL K H a xs∧xs[i]?=some x,fun i H x H'=>H'=H∧∀xs,SqL K H a xs→xs[i]?=some x,fun i H=>∃xs,SqL K H a xs∧xs.length≤i⟩
def Itt (K:PySem.W.Frag) (a:Addr):It :=
 ⟨fun i H=>∃xs x,SqT K H a xs∧xs[i]?=some x,fun i H x H'=>H'=H∧∀xs,SqT K H a xs→xs[i]?=some x,fun i H=>∃xs,SqT K H a xs∧xs.length≤i⟩
def Itr (lo:Int) (n:Nat):It:=⟨fun i _=>i<n,fun i H x H'=>H'=H∧x = .int (lo+i),fun i _=>n≤i⟩
theorem qkI {P:Program} {w:World} {K:PySem.W.Frag} {tg:Expr} (a it:Addr):qpu P w K tg (Itl K a) [it] it (fun i h=>h.IsListIter it a i) where
 mem:=by simp
 obj:=fun i h st b hb=>by
   have e:b=it:=by simpa using hb
   subst e
   obtain ⟨o,e,c,d⟩:=st
   exact ⟨o,e,fun v z=>by rw [d] at z;cases z⟩
 keep:=fun i h h' st k=>st.at fun o e=>k it (by simp) o e
 item:=by
   intro X hP hw hK hc i pins s σ H E I hf st hg
   subst hP hw hK
   obtain ⟨xs,x,hq,hx⟩:=hg
   obtain ⟨its,rv,p,hz⟩:=I.list hq
   obtain ⟨u,hu,ru⟩:=rv.get hx
   obtain ⟨f0,f1,f2,f3,f4,f5⟩:=hf it (by simp)
   refine wpAny_pyNext_list_item st p.isList (x:=u) (by simpa using hu) fun h' st' sb=>?_
   have I1:Inv X pins σ H { s with heap:=h' }:=I.turned (t':=s.toks) (fun b o hb e=>(sb.2 b hb).trans e) f0 f1 f3 f4 f5
   obtain ⟨o,e,c,d⟩:=id st'
   exact ⟨u,rfl,qnL (s:={ s with heap:=h' }) e c d (by decide) ⟨x,H,I1,ru,⟨rfl,fun ys hy=>by rw [I.list_inj hy hq];exact hx⟩,st',fun b hb=>(hf b hb).1⟩⟩
 done:=by
   intro X hP hw hK hc i pins s σ H E I hf st hg
   subst hP hw hK
   obtain ⟨xs,hq,hx⟩:=hg
   obtain ⟨its,rv,p,hz⟩:=I.list hq
   obtain ⟨f0,f1,f2,f3,f4,f5⟩:=hf it (by simp)
   have hl:=rv.length
   exact wpAny_pyNext_list_end (I.ok.hd hc) st p.isList (by simp;omega) fun h' eb=>⟨rfl,I.turned (t':=s.toks) (fun b o hb e=>eb b o hb e) f0 f1 f3 f4 f5⟩
 self:=fun _ _ _ _ _ st h=>wpAny_pyIter_listiter st h
theorem qj8 {P:Program} {w:World} {K:PySem.W.Frag} {tg:Expr} (a it:Addr):qpu P w K tg (Itt K a) [it] it (fun i h=>h.IsTupleIter it a i) where
 mem:=by simp
 obj:=fun i h st b hb=>by
   have e:b=it:=by simpa using hb
   subst e
   obtain ⟨o,e,c,d⟩:=st
   exact ⟨o,e,fun v z=>by rw [d] at z;cases z⟩
 keep:=fun i h h' st k=>st.at fun o e=>k it (by simp) o e
 item:=by
   intro X hP hw hK hc i pins s σ H E I hf st hg
   subst hP hw hK
   obtain ⟨xs,x,hq,hx⟩:=hg
   obtain ⟨its,rv,p,hz⟩:=I.tuple hq
   obtain ⟨u,hu,ru⟩:=rv.get hx
   obtain ⟨f0,f1,f2,f3,f4,f5⟩:=hf it (by simp)
   refine wpAny_pyNext_tuple_item st (show s.heap.IsTuple a its.toArray from p) (x:=u) (by simpa using hu) fun h' st' sb=>?_
   have I1:Inv X pins σ H { s with heap:=h' }:=I.turned (t':=s.toks) (fun b o hb e=>(sb.2 b hb).trans e) f0 f1 f3 f4 f5
   obtain ⟨o,e,c,d⟩:=id st'
   exact ⟨u,rfl,qnL (s:={ s with heap:=h' }) e c d (by decide) ⟨x,H,I1,ru,⟨rfl,fun ys hy=>by rw [I.tuple_inj hy hq];exact hx⟩,st',fun b hb=>(hf b hb).1⟩⟩
 done:=by
   intro X hP hw hK hc i pins s σ H E I hf st hg
   subst hP hw hK
   obtain ⟨xs,hq,hx⟩:=hg
   obtain ⟨its,rv,p,hz⟩:=I.tuple hq
   obtain ⟨f0,f1,f2,f3,f4,f5⟩:=hf it (by simp)
   have hl:=rv.length
   exact wpAny_pyNext_tuple_end (I.ok.hd hc) st (show s.heap.IsTuple a its.toArray from p) (by simp;omega) fun h' eb=>⟨rfl,I.turned (t':=s.toks) (fun b o hb e=>eb b o hb e) f0 f1 f3 f4 f5⟩
 self:=fun _ _ _ _ _ st h=>wpAny_pyIter_tupleiter st h
theorem qkg {P:Program} {w:World} {K:PySem.W.Frag} {tg:Expr} (it:Addr) (lo:Int) (n:Nat):qpu P w K tg (Itr lo n) [it] it (fun i h=>IsRangeIter h it (lo+(i:Nat)*1) ((n:Int)-(i:Nat)) 1) where
 mem:=by simp
 obj:=fun i h st b hb=>by
   have e:b=it:=by simpa using hb
   subst e
   exact ⟨_,st,fun v z=>by
     have z':Data.fields _=Data.cell v:=z
     cases z'⟩
 keep:=fun i h h' st k=>k it (by simp) _ st
 item:=by
   intro X hP hw hK hc i pins s σ H E I hf st hg
   subst hP hw hK
   obtain ⟨f0,f1,f2,f3,f4,f5⟩:=hf it (by simp)
   have W:=Walks.range (prog:=X.prog) (w:=X.w) (I.ok.hd hc) it lo 1 n
   refine W.item i s _ _ hg st fun v h' tk hv st' kk=>?_
   obtain ⟨t,rfl⟩:=hv
   have I1:Inv X pins σ H { s with heap:=h',toks:=tk }:=I.turned (fun b o hb e=>kk b o (by simpa using hb) e) f0 f1 f3 f4 f5
   refine ⟨_,rfl,qnL (s:={ s with heap:=h',toks:=tk }) (n := "range_iterator") st' rfl rfl (by decide) ⟨.int (lo+i),H,I1,⟨t,?_⟩,⟨rfl,rfl⟩,st',fun b hb=>(hf b hb).1⟩⟩
   rw [Int.mul_one]
 done:=by
   intro X hP hw hK hc i pins s σ H E I hf st hg
   subst hP hw hK
   obtain ⟨f0,f1,f2,f3,f4,f5⟩:=hf it (by simp)
   exact wpAny_pyNext_range_end (I.ok.hd hc) st (by have:n≤i:=hg;omega) fun h' eb=>⟨rfl,I.turned (t':=s.toks) (fun b o hb e=>eb b o hb e) f0 f1 f3 f4 f5⟩
 self:=fun _ _ _ _ _ st h=>wpAny_pyIter_rangeiter st h
end L2
namespace L2
open PySem PySem.Spec PyProof.Rows
section
variable {X:Cx} {tg:Expr}
def qpS (K:PySem.W.Frag) (tl:TE):TI:=fun σ H R=>tl σ H fun x H1=>∃a,x = .ref a∧(∃xs,SqL K H1 a xs)∧R (Itl K a) H1
def qsP (K:PySem.W.Frag) (tl:TE):TI:=fun σ H R=>tl σ H fun x H1=>∃a,x = .ref a∧(∃xs,SqT K H1 a xs)∧R (Itt K a) H1
theorem qaL {l:Expr} {tl:TE} (hl:PE X l tl):PI X tg l (qpS X.K tl):=by
 intro pins s σ H R I h
 refine thn (hl pins s σ H _ I h) fun v s1 ⟨x,H1,I1,r1,q1⟩=>?_
 obtain ⟨a,e,⟨xs,hq⟩,q⟩:=q1
 subst e
 cases r1
 obtain ⟨its,rv,p,hz⟩:=I1.list hq
 refine wpAny_pyIter_list p.isList ?_
 refine ⟨s1.heap.objs.size,[s1.heap.objs.size],_,_,H1,rfl,I1.kept (t':=s1.toks) fun b o e=>Heap.get?_push_of_some _ e,qkI a _,⟨_,Heap.get?_push_size _ rfl,rfl,rfl⟩,fun b hb=>?_,q⟩
 have e:b=s1.heap.objs.size:=by simpa using hb
 subst e
 exact I1.fpOk (Nat.le_refl _) (I1.hok.fresh (Nat.le_refl _))
theorem qre {l:Expr} {tl:TE} (hl:PE X l tl):PI X tg l (qsP X.K tl):=by
 intro pins s σ H R I h
 refine thn (hl pins s σ H _ I h) fun v s1 ⟨x,H1,I1,r1,q1⟩=>?_
 obtain ⟨a,e,⟨xs,hq⟩,q⟩:=q1
 subst e
 cases r1
 obtain ⟨its,rv,p,hz⟩:=I1.tuple hq
 refine wpAny_pyIter_tuple (show s1.heap.IsTuple a its.toArray from p) ?_
 refine ⟨s1.heap.objs.size,[s1.heap.objs.size],_,_,H1,rfl,I1.kept (t':=s1.toks) fun b o e=>Heap.get?_push_of_some _ e,qj8 a _,⟨_,Heap.get?_push_size _ rfl,rfl,rfl⟩,fun b hb=>?_,q⟩
 have e:b=s1.heap.objs.size:=by simpa using hb
 subst e
 exact I1.fpOk (Nat.le_refl _) (I1.hok.fresh (Nat.le_refl _))
theorem qnm {pins:List (Addr×Obj)} {σ:St} {H:Hp} {s:Shared} {R:It→Hp→Prop} {E:Value→Shared→Prop} {lo hi:Int} {t u v:Tok} {tk:Nat} (I:Inv X pins σ H s) (h1:-(2^62)≤lo) (h2:lo<2^62) (h3:-(2^62)≤hi) (h4:hi<2^62)
   (q:R (Itr lo (hi-lo).toNat) H):wpAny (model X.prog X.w) X.A (pyIter (.ref s.heap.objs.size)) (PIE X pins σ tg R) E { s with heap:=s.heap.push { cls := .type "range",data := .fields #[.int lo t,.int hi u,.int 1 v] },toks:=tk }:=by
 refine wpAny_pyIter_range (IsRange.new ..) (small_one h1 h2 h3 h4) ?_
 have I1:Inv X pins σ H { s with heap:=s.heap.push { cls := .type "range",data := .fields #[.int lo t,.int hi u,.int 1 v] },toks:=tk }:=I.kept fun b o e=>Heap.get?_push_of_some _ e
 refine ⟨(s.heap.push { cls := .type "range",data := .fields #[.int lo t,.int hi u,.int 1 v] }).objs.size,[(s.heap.push { cls := .type "range",data := .fields #[.int lo t,.int hi u,.int 1 v] }).objs.size],_,_,H,rfl,
   I1.kept (t':=tk) fun b o e=>Heap.get?_push_of_some _ e,qkg _ lo (hi-lo).toNat,?_,fun b hb=>?_,q⟩
 · have e1:lo+((0:Nat):Int)*1=lo:=by simp
   have e2:(((hi-lo).toNat:Nat):Int)-((0:Nat):Int)=Builtin.Range.rangeSize lo hi 1:=by rw [rangeSize_one];split<;>omega
   show IsRangeIter _ _ (lo+((0:Nat):Int)*1) ((((hi-lo).toNat:Nat):Int)-((0:Nat):Int)) 1
   rw [e1,e2]
   exact Heap.get?_push_size _ rfl
 · have e:b=(s.heap.push { cls := .type "range",data := .fields #[.int lo t,.int hi u,.int 1 v] }).objs.size:=by simpa using hb
   subst e
   exact I1.fpOk (Nat.le_refl _) (I1.hok.fresh (Nat.le_refl _))
def qp4 (ta:TA):TI:=fun σ H R=>ta σ H fun vs H1=>∃j:Int,vs=[.int j]∧-(2^62)≤j∧j<2^62∧R (Itr 0 j.toNat) H1
def qq6 (ta:TA):TI:=fun σ H R=>ta σ H fun vs H1=>∃i j:Int,vs=[.int i,.int j]∧(-(2^62)≤i∧i<2^62∧-(2^62)≤j∧j<2^62)∧R (Itr i (j-i).toNat) H1
theorem qaQ {a:Expr} {ta:TA} {p pos:Pos} (hg:Gl X "range") (hm:X.mg "range" = none) (ha:PA X [a] ta) (hs:starEach [a] X.env=[(false,eval a X.env)]:=by rfl):PI X tg (.Call (.Name "range" p) [a] [] pos) (qp4 ta):=by
 intro pins s σ H R I h
 refine Call_ (qhB I hg hm boot_range (PyProof.Rows.callWith_type1 (thn (ha pos pins s σ H _ I h) fun us s1 ⟨vs,H1,I1,r1,q1⟩=>?_) hs rfl))
 obtain ⟨j,e,q1,q2,q⟩:=q1
 subst e
 cases r1 with
 | cons r rr =>
   cases rr
   obtain ⟨t,rfl⟩:=r
   exact call_range_1 (qnm I1 (by omega) (by omega) q1 q2 (by simpa using q))
def qoc (wi:TI) (g:TG) (tb:TS):TS:=fun D σ H=>wi σ H fun J H1=>∃W:Nat→Nat→St→Hp→Prop,(∃m,W 0 m σ H1)∧∀i m σ H,W i m σ H →
 (J.stop i H∧D.nx σ H)∨(J.go i H∧∃N:St→Hp→Prop,(∀σ' H',N σ' H'→∃m',m'<m∧W (i+1) m' σ' H')∧∀x H',J.yld i H x H'→g x σ H' fun σ2 H2=>tb { D with nx:=N,ct:=N,bk:=D.nx } σ2 H2)
def qhe (fp:List Addr) (h:Heap):List (Addr×Obj):=fp.filterMap fun b=>(h.get? b).map fun o=>(b,o)
theorem qc3 {fp:List Addr} {h:Heap} {b:Addr} {o:Obj} (hb:b∈fp) (e:h.get? b=some o):(b,o)∈qhe fp h:=List.mem_filterMap.mpr ⟨b,hb,by rw [e];rfl⟩
theorem qld {fp:List Addr} {h:Heap} {p:Addr×Obj} (hp:p∈qhe fp h):p.1∈fp∧h.get? p.1=some p.2:=by
 obtain ⟨b,hb,e⟩:=List.mem_filterMap.mp hp
 cases q:h.get? b with
 | none=>rw [q] at e;cases e
 | some o =>
   rw [q] at e
   have e':(b,o)=p:=Option.some.inj e
   subst e'
   exact ⟨hb,q⟩
theorem Inv.pinned {pins:List (Addr×Obj)} {σ:St} {H:Hp} {s:Shared} {fp:List Addr} (I:Inv X pins σ H s) (hf:∀b∈fp,qkr X pins H b) (ho:∀b∈fp,∃o,s.heap.get? b=some o∧∀v,o.data ≠ .cell v):Inv X (pins++qhe fp s.heap) σ H s :=
 I.pins_of fun p hp=>(List.mem_append.mp hp).elim (fun z=>I.pin p (List.mem_append_right _ z)) fun z=>by
   obtain ⟨hb,e⟩:=qld z
   obtain ⟨f0,f1,f2,_⟩:=hf p.1 hb
   obtain ⟨o,e',d⟩:=ho p.1 hb
   rw [e] at e';cases e'
   exact ⟨e,f0,f1,f2,d⟩
theorem Inv.unpinned {pins pl:List (Addr×Obj)} {σ:St} {H:Hp} {s:Shared} (I:Inv X (pins++pl) σ H s):Inv X pins σ H s:=I.pins_of fun p hp=>I.pin p (List.mem_append_right _ (List.mem_append_left _ hp))
theorem qbG {iter:Expr} {body:List Stmt} {wi:TI} {g:TG} {tb:TS} {pos:Pos} (hp:PassesOwn (model X.prog X.w) X.A X.env X.xe) (hc:X.calm=true) (hi:PI X tg iter wi) (hg:PG X tg g) (hb:PSs X body tb)
   (hs:∀x,foldedSetIterable iter X.env x=pure x:=by intro _;rfl):PS X (.For tg iter body [] pos) (qoc wi g tb):=by
 intro pins s σ H D I h
 refine wpAny_For (thn (hi pins s σ H _ I h) fun v s1 h1=>thn h1 fun itv s2 h2=>?_) hs
 obtain ⟨it,fp,tn,J,H2,e,I2,T,st2,f2,W,⟨m0,w0⟩,turn⟩:=h2
 subst e
 -- what stays true of the iterator's objects through the loop
 have stat:∀{H':Hp},(∀b∈fp,H' b=none)→∀b∈fp,qkr X pins H' b:=fun hn b hb=>⟨hn b hb,(f2 b hb).2⟩
 refine codeAny_forLoop_any (fun n s'=>∃i σ' H',Inv X pins σ' H' s'∧tn i s'.heap∧(∀b∈fp,H' b=none)∧W i n σ' H') ?_ m0 ⟨0,σ,H2,I2,st2,fun b hb=>(f2 b hb).1,w0⟩
 rintro n s3 ⟨i,σ3,H3,I3,st3,fr3,w3⟩
 rcases turn i n σ3 H3 w3 with ⟨stop,qn⟩ | ⟨go,N,hN,step⟩
 · refine wpAny_passesOwn hp (thn (T.done X rfl rfl rfl hc i pins s3 σ3 H3 X.xe I3 (stat fr3) st3 stop) fun r s4 ⟨hr,I4⟩=>?_)
   subst hr
   exact wpAny_execs_nil ⟨σ3,H3,I4,qn⟩
 · refine wpAny_passesOwn hp (thn (T.item X rfl rfl rfl hc i pins s3 σ3 H3 X.xe I3 (stat fr3) st3 go) fun r s4 ⟨u,hr,h4⟩=>?_)
   subst hr
   refine wpAny_passesOwn hp (thn h4 fun _ s5 ⟨x,H5,I5,r5,y5,st5,fr5⟩=>?_)
   have I5':=I5.pinned (stat fr5) (T.obj _ _ st5)
   refine wpAny_passesOwn hp (thn (hg _ s5 σ3 H5 x u _ I5' r5 (step x H5 y5)) fun _ s6 ⟨σ6,H6,I6,q6⟩=>?_)
   refine wpAny_passesOwn hp (thn (hb _ s6 σ6 H6 _ I6 q6) fun f s7 q7=>?_)
   have again:∀{σ7:St} {H7:Hp},Inv X (pins++qhe fp s5.heap) σ7 H7 s7→N σ7 H7→∃m,m<n∧∃i σ' H',Inv X pins σ' H' s7∧tn i s7.heap∧(∀b∈fp,H' b=none)∧W i m σ' H':=fun {σ7 H7} I7 n7=>by
     obtain ⟨m',hm,w7⟩:=hN σ7 H7 n7
     refine ⟨m',hm,i+1,σ7,H7,I7.unpinned,T.keep _ _ _ st5 fun b hb o e=>(I7.pin (b,o) (List.mem_append_right _ (List.mem_append_right _ (qc3 hb e)))).1,fun b hb=>?_,w7⟩
     obtain ⟨o,e,d⟩:=T.obj _ _ st5 b hb
     exact (I7.pin (b,o) (List.mem_append_right _ (List.mem_append_right _ (qc3 hb e)))).2.1
   cases f with
   | next=>obtain ⟨σ7,H7,I7,n7⟩:=q7;exact again I7 n7
   | cont=>obtain ⟨σ7,H7,I7,n7⟩:=q7;exact again I7 n7
   | brk=>obtain ⟨σ7,H7,I7,q7⟩:=q7;exact ⟨σ7,H7,I7.unpinned,q7⟩
   | ret v=>obtain ⟨x7,σ7,H7,I7,r7,q7⟩:=q7;exact ⟨x7,σ7,H7,I7.unpinned,r7,q7⟩
end
theorem qnk {K:PySem.W.Frag} {a:Addr} {xs:List V} {g:TG} {tb:TS} {D:qf0} {σ:St} {H:Hp} (Pv:Nat→St→Hp→Prop) (h0:Pv 0 σ H) (hl:∀i σ H,i≤xs.length→Pv i σ H→SqL K H a xs)
   (hs:∀i x σ H,xs[i]?=some x→Pv i σ H→g x σ H fun σ2 H2=>tb { D with nx:=Pv (i+1),ct:=Pv (i+1),bk:=D.nx } σ2 H2) (hd:∀σ H,Pv xs.length σ H→D.nx σ H) :
   ∃W:Nat→Nat→St→Hp→Prop,(∃m,W 0 m σ H)∧∀i m σ H,W i m σ H →
     ((Itl K a).stop i H∧D.nx σ H)∨((Itl K a).go i H∧∃N:St→Hp→Prop,(∀σ' H',N σ' H'→∃m',m'<m∧W (i+1) m' σ' H')∧∀x H',(Itl K a).yld i H x H'→g x σ H' fun σ2 H2=>tb { D with nx:=N,ct:=N,bk:=D.nx } σ2 H2):=by
 refine ⟨fun i m σ H=>m=xs.length-i∧i≤xs.length∧Pv i σ H,⟨xs.length,by simp,Nat.zero_le _,h0⟩,?_⟩
 rintro i m σ H ⟨rfl,hi,p⟩
 have q:=hl i σ H hi p
 by_cases hlt:i<xs.length
 · refine .inr ⟨⟨xs,xs[i],q,by simp [hlt]⟩,Pv (i+1),fun σ' H' p'=>⟨xs.length-(i+1),by omega,rfl,hlt,p'⟩,fun x H' y=>?_⟩
   obtain ⟨e,y⟩:=y
   subst e
   exact hs i x σ _ (y xs q) p
 · have e:i=xs.length:=by omega
   subst e
   exact .inl ⟨⟨xs,q,Nat.le_refl _⟩,hd σ H p⟩
theorem ql4 {lo:Int} {n:Nat} {g:TG} {tb:TS} {D:qf0} {σ:St} {H:Hp} (Pv:Nat→St→Hp→Prop) (h0:Pv 0 σ H)
   (hs:∀i σ H,i<n→Pv i σ H→g (.int (lo+i)) σ H fun σ2 H2=>tb { D with nx:=Pv (i+1),ct:=Pv (i+1),bk:=D.nx } σ2 H2) (hd:∀σ H,Pv n σ H→D.nx σ H) :
   ∃W:Nat→Nat→St→Hp→Prop,(∃m,W 0 m σ H)∧∀i m σ H,W i m σ H →
     ((Itr lo n).stop i H∧D.nx σ H)∨((Itr lo n).go i H∧∃N:St→Hp→Prop,(∀σ' H',N σ' H'→∃m',m'<m∧W (i+1) m' σ' H')∧∀x H',(Itr lo n).yld i H x H'→g x σ H' fun σ2 H2=>tb { D with nx:=N,ct:=N,bk:=D.nx } σ2 H2):=by
 refine ⟨fun i m σ H=>m=n-i∧i≤n∧Pv i σ H,⟨n,by simp,Nat.zero_le _,h0⟩,?_⟩
 rintro i m σ H ⟨rfl,hi,p⟩
 by_cases hlt:i<n
 · refine .inr ⟨hlt,Pv (i+1),fun σ' H' p'=>⟨n-(i+1),by omega,rfl,hlt,p'⟩,fun x H' y=>?_⟩
   obtain ⟨e,y⟩:=y
   subst e y
   exact hs i σ _ hlt p
 · have e:i=n:=by omega
   subst e
   exact .inl ⟨Nat.le_refl _,hd σ H p⟩
end L2
namespace L2
open PySem PySem.Spec PyProof.Rows
abbrev R2:=V→V→Hp→VK→Prop
def OpR (X:Cx) (f:Value→Value→Sem Value) (r:R2):Prop :=
 ∀(pins:List (Addr×Obj)) (s:Shared) (σ:St) (H:Hp) (x y:V) (v u:Value) (Q:VK),Inv X pins σ H s→qbm x v→qbm y u→r x y H Q →
   wpAny (model X.prog X.w) X.A (f v u) (EP X pins σ Q) X.xe s
def UnR (X:Cx) (f:Value→Sem Value) (r:V→Hp→VK→Prop):Prop :=
 ∀(pins:List (Addr×Obj)) (s:Shared) (σ:St) (H:Hp) (x:V) (v:Value) (Q:VK),Inv X pins σ H s→qbm x v→r x H Q →
   wpAny (model X.prog X.w) X.A (f v) (EP X pins σ Q) X.xe s
def qcC (X:Cx) (f:Value) (r:List V→Hp→VK→Prop):Prop :=
 ∀(pins:List (Addr×Obj)) (s:Shared) (σ:St) (H:Hp) (xs:List V) (us:List Value) (Q:VK),Inv X pins σ H s→qbc xs us→r xs H Q →
   wpAny (model X.prog X.w) X.A (call f us) (EP X pins σ Q) X.xe s
def tOp (r:R2) (ta tb:TE):TE:=fun σ H Q=>ta σ H fun x H1=>tb σ H1 fun y H2=>r x y H2 Q
def tUn (r:V→Hp→VK→Prop) (ta:TE):TE:=fun σ H Q=>ta σ H fun x H1=>r x H1 Q
def rI (C:Int→Int→Prop) (g:Int→Int→V):R2:=fun x y H Q=>∃i j,x = .int i∧y = .int j∧C i j∧Q (g i j) H
def rI0 (g:Int→Int→V):R2:=fun x y H Q=>∃i j,x = .int i∧y = .int j∧Q (g i j) H
def rU (g:Int→V):V→Hp→VK→Prop:=fun x H Q=>∃i,x = .int i∧Q (g i) H
section
variable {X:Cx} {a b c:Expr} {ta tb tc:TE} {pos:Pos}
theorem qrT (ha:PE X a ta) (hb:PE X b tb) {pins:List (Addr×Obj)} {s:Shared} {σ:St} {H:Hp} {R:V→V→Hp→Prop} (I:Inv X pins σ H s)
   (h:ta σ H fun x H1=>tb σ H1 fun y H2=>R x y H2) {Q:Value→Shared→Prop} {f:Value→Value→Sem Value}
   (hf:∀v u s2 x y H2,Inv X pins σ H2 s2→qbm x v→qbm y u→R x y H2→wpAny (model X.prog X.w) X.A (f v u) Q X.xe s2) :
   wpAny (model X.prog X.w) X.A (eval a X.env) (fun v s₁=>wpAny (model X.prog X.w) X.A (eval b X.env) (fun u s₂=>wpAny (model X.prog X.w) X.A (f v u) Q X.xe s₂) X.xe s₁) X.xe s:=by
 refine thn (ha pins s σ H _ I h) fun v s1 ⟨x,H1,I1,r1,q1⟩=>?_
 refine thn (hb pins s1 σ H1 _ I1 q1) fun u s2 ⟨y,H2,I2,r2,q2⟩=>?_
 exact hf v u s2 x y H2 I2 r1 r2 q2
theorem qar {op:Operator} {r:R2} (ho:OpR X (binaryOp op) r) (ha:PE X a ta) (hb:PE X b tb):PE X (.BinOp a op b pos) (tOp r ta tb):=by
 intro pins s σ H Q I h
 exact wpAny_BinOp (qrT ha hb I h fun v u s2 x y H2 I2 rx ry q=>ho pins s2 σ H2 x y v u Q I2 rx ry q)
theorem qpL {op:UnaryOp} {r:V→Hp→VK→Prop} (ho:UnR X (unaryOp op) r) (ha:PE X a ta):PE X (.UnaryOp op a pos) (tUn r ta):=by
 intro pins s σ H Q I h
 exact UnaryOp_ (thn (ha pins s σ H _ I h) fun v s1 ⟨x,H1,I1,r1,q1⟩=>ho pins s1 σ H1 x v Q I1 r1 q1)
theorem opI {f:Value→Value→Sem Value} {C:Int→Int→Prop} {g:Int→Int→Int}
   (rule:∀(i j:Int) (t u:Tok) (s:Shared) (Q:Value→Shared→Prop) (E:Value→Shared→Prop),C i j→Q (.int (g i j) s.toks) { s with toks:=s.toks+1 }→wpAny (model X.prog X.w) X.A (f (.int i t) (.int j u)) Q E s) :
   OpR X f (rI C fun i j => .int (g i j)):=by
 intro pins s σ H x y v u Q I rx ry h
 obtain ⟨i,j,rfl,rfl,hc,q⟩:=h
 obtain ⟨t,rfl⟩:=rx
 obtain ⟨t',rfl⟩:=ry
 exact rule i j t t' s _ _ hc ⟨.int (g i j),H,I.tok _,⟨_,rfl⟩,q⟩
theorem qrX {f:Value→Value→Sem Value} {g:Int→Int→Int}
   (rule:∀(i j:Int) (t u:Tok) (s:Shared) (Q:Value→Shared→Prop) (E:Value→Shared→Prop),Q (.int (g i j) s.toks) { s with toks:=s.toks+1 }→wpAny (model X.prog X.w) X.A (f (.int i t) (.int j u)) Q E s) :
   OpR X f (rI0 fun i j => .int (g i j)):=by
 intro pins s σ H x y v u Q I rx ry h
 obtain ⟨i,j,rfl,rfl,q⟩:=h
 obtain ⟨t,rfl⟩:=rx
 obtain ⟨t',rfl⟩:=ry
 exact rule i j t t' s _ _ ⟨.int (g i j),H,I.tok _,⟨_,rfl⟩,q⟩
theorem qrQ {f:Value→Value→Sem Value} {g:Int→Int→Bool}
   (rule:∀(i j:Int) (t u:Tok) (s:Shared) (Q:Value→Shared→Prop) (E:Value→Shared→Prop),Q (.bool (g i j)) s→wpAny (model X.prog X.w) X.A (f (.int i t) (.int j u)) Q E s) :
   OpR X f (rI0 fun i j => .bl (g i j)):=by
 intro pins s σ H x y v u Q I rx ry h
 obtain ⟨i,j,rfl,rfl,q⟩:=h
 obtain ⟨t,rfl⟩:=rx
 obtain ⟨t',rfl⟩:=ry
 exact rule i j t t' s _ _ ⟨.bl (g i j),H,I,rfl,q⟩
def qsK (i j:Int):Prop:=0≤j∧j≤1000000∧i.natAbs<2^64
def qrU (i j:Int):Prop:=(-(2^64)<i∧i<2^64)∨(-(2^64)<j∧j<2^64)
theorem qrU.ok {i j:Int} (h:qrU i j):IntMulOk i j:=by
 rcases h with ⟨h1,h2⟩ | ⟨h1,h2⟩
 · exact .of_left (intBits_le_64 h1 h2)
 · exact .of_right (intBits_le_64 h1 h2)
theorem qjT (k:Nat):(0:Int)≤2^k:=by
 rw [two_pow_cast]
 exact Int.natCast_nonneg _
theorem qbz:OpR X (binaryOp .Add) (rI0 fun i j => .int (i+j)):=qrX fun _ _ _ _ _ _ _ q=>add_int q
theorem qjo:OpR X (binaryOp .Sub) (rI0 fun i j => .int (i-j)):=qrX fun _ _ _ _ _ _ _ q=>sub_int q
theorem qcL:OpR X (binaryOp .Mult) (rI qrU fun i j => .int (i*j)):=opI fun _ _ _ _ _ _ _ hc q=>mul_int q hc.ok
theorem qbd:OpR X (binaryOp .Mod) (rI (fun _ j=>0<j) fun i j => .int (i%j)):=opI fun i j _ _ _ _ _ hc q=>by
 have h1:(0:Int)<j:=hc
 exact mod_int' (by omega) (by rw [Int.fmod_eq_emod_of_nonneg i (by omega)];exact q)
theorem qc9:OpR X (binaryOp .LShift) (rI qsK fun i j => .int (i*2^j.toNat)):=opI fun _ _ _ _ _ _ _ hc q=>lshift_int_small hc.1 hc.2.1 hc.2.2 q
theorem qkO:OpR X (binaryOp .RShift) (rI (fun _ j=>0≤j) fun i j => .int (i/2^j.toNat)):=opI fun i j _ _ _ _ _ hc q =>
 rshift_int hc (by rw [Int.fdiv_eq_ediv_of_nonneg i (qjT _)];exact q)
theorem qdt:OpR X (binaryOp .BitAnd) (rI0 fun i j => .int (Builtin.bitAnd i j)):=qrX fun _ _ _ _ _ _ _ q=>and_int q
theorem qpa:OpR X (binaryOp .BitOr) (rI0 fun i j => .int (Builtin.bitOr i j)):=qrX fun _ _ _ _ _ _ _ q=>or_int q
theorem unI {f:Value→Sem Value} {g:Int→Int}
   (rule:∀(i:Int) (t:Tok) (s:Shared) (Q:Value→Shared→Prop) (E:Value→Shared→Prop),Q (.int (g i) s.toks) { s with toks:=s.toks+1 }→wpAny (model X.prog X.w) X.A (f (.int i t)) Q E s) :
   UnR X f (rU fun i => .int (g i)):=by
 intro pins s σ H x v Q I rx h
 obtain ⟨i,rfl,q⟩:=h
 obtain ⟨t,rfl⟩:=rx
 exact rule i t s _ _ ⟨.int (g i),H,I.tok _,⟨_,rfl⟩,q⟩
theorem qqP:UnR X (unaryOp .USub) (rU fun i => .int (-i)):=unI fun _ _ _ _ _ q=>neg_int q
theorem qn0:UnR X (unaryOp .Invert) (rU fun i => .int (Builtin.bitNot i)):=unI fun _ _ _ _ _ q=>invert_int q
end
def qnv:V→V→Bool
 | .non,.non=>true | .non,.int _=>true | .int _,.non=>true | .non,.bl _=>true | .bl _,.non=>true | .non,.str _=>true | .str _,.non=>true
 | .int _,.int _=>true | .bl _,.bl _=>true | .str _,.str _=>true | .byt _,.byt _=>true
 | .int _,.str _=>true | .str _,.int _=>true | .bl _,.str _=>true | .str _,.bl _=>true
 | _,_=>false
def rEq:R2:=fun x y H Q=>qnv x y=true∧Q (.bl (decide (x=y))) H
def rNe:R2:=fun x y H Q=>qnv x y=true∧Q (.bl (!decide (x=y))) H
theorem qlY {i j:Int}:decide (V.int i=V.int j)=(i==j):=by
 rw [Bool.eq_iff_iff]
 simp
theorem qor {i j:Bool}:decide (V.bl i=V.bl j)=(i==j):=by
 rw [Bool.eq_iff_iff]
 simp
theorem qmr {i j:Str}:decide (V.str i=V.str j)=(i==j):=by
 rw [Bool.eq_iff_iff]
 simp
theorem qkC {i j:Array UInt8}:decide (V.byt i=V.byt j)=(i.toList==j.toList):=by
 rw [Bool.eq_iff_iff]
 cases i
 cases j
 simp
section
variable {X:Cx} {a b c:Expr} {ta tb tc:TE} {pos:Pos}
theorem qaP {pins:List (Addr×Obj)} {σ:St} {H:Hp} {s:Shared} {Q:VK} {k k':Bool} (I:Inv X pins σ H s) (q:Q (.bl k) H) (e:k=k'):EP X pins σ Q (.bool k') s:=by
 subst e
 exact ⟨.bl k,H,I,rfl,q⟩
theorem qst:OpR X (compareOp .Eq) rEq:=by
 intro pins s σ H x y v u Q I rx ry h
 obtain ⟨hs,q⟩:=h
 cases x with
 | non =>
   cases rx
   cases y with
   | non=>cases ry;exact PySem.EqNone.eq_none_none (qaP I q (by simp))
   | bl j=>cases ry;exact PySem.EqNone.eq_none_bool (qaP I q (by simp))
   | int j=>obtain ⟨t',rfl⟩:=ry;exact PySem.EqNone.eq_none_int (qaP I q (by simp))
   | str j=>obtain ⟨t',rfl⟩:=ry;exact PySem.EqNone.eq_none_str (qaP I q (by simp))
   | _=>exact absurd (show false=true from hs) Bool.false_ne_true
 | bl i =>
   cases rx
   cases y with
   | non=>cases ry;exact PySem.EqNone.eq_bool_none (qaP I q (by simp))
   | bl j=>cases ry;exact eq_bool (qaP I q qor)
   | str j=>obtain ⟨t',rfl⟩:=ry;exact PySem.EqMixed.eq_bool_str (qaP I q (by simp))
   | _=>exact absurd (show false=true from hs) Bool.false_ne_true
 | int i =>
   obtain ⟨t,rfl⟩:=rx
   cases y with
   | non=>cases ry;exact PySem.EqNone.eq_int_none (qaP I q (by simp))
   | int j=>obtain ⟨t',rfl⟩:=ry;exact eq_int (qaP I q qlY)
   | str j=>obtain ⟨t',rfl⟩:=ry;exact PySem.EqMixed.eq_int_str (qaP I q (by simp))
   | _=>exact absurd (show false=true from hs) Bool.false_ne_true
 | str i =>
   obtain ⟨t,rfl⟩:=rx
   cases y with
   | non=>cases ry;exact PySem.EqNone.eq_str_none (qaP I q (by simp))
   | bl j=>cases ry;exact PySem.EqMixed.eq_str_bool (qaP I q (by simp))
   | int j=>obtain ⟨t',rfl⟩:=ry;exact PySem.EqMixed.eq_str_int (qaP I q (by simp))
   | str j=>obtain ⟨t',rfl⟩:=ry;exact eq_str (qaP I q qmr)
   | _=>exact absurd (show false=true from hs) Bool.false_ne_true
 | byt i =>
   obtain ⟨t,rfl⟩:=rx
   cases y with
   | byt j=>obtain ⟨t',rfl⟩:=ry;exact PySem.W.eq_bytes (qaP I q qkC)
   | _=>exact absurd (show false=true from hs) Bool.false_ne_true
 | _=>cases y<;>exact absurd (show false=true from hs) Bool.false_ne_true
theorem qr3:OpR X (compareOp .NotEq) rNe:=by
 intro pins s σ H x y v u Q I rx ry h
 obtain ⟨hs,q⟩:=h
 cases x with
 | non =>
   cases rx
   cases y with
   | non=>cases ry;exact PySem.EqNone.ne_none_none (qaP I q (by simp))
   | bl j=>cases ry;exact PySem.EqNone.ne_none_bool (qaP I q (by simp))
   | int j=>obtain ⟨t',rfl⟩:=ry;exact PySem.EqNone.ne_none_int (qaP I q (by simp))
   | str j=>obtain ⟨t',rfl⟩:=ry;exact PySem.EqNone.ne_none_str (qaP I q (by simp))
   | _=>exact absurd (show false=true from hs) Bool.false_ne_true
 | bl i =>
   cases rx
   cases y with
   | non=>cases ry;exact PySem.EqNone.ne_bool_none (qaP I q (by simp))
   | bl j=>cases ry;exact ne_bool (qaP I q (congrArg not qor))
   | str j=>obtain ⟨t',rfl⟩:=ry;exact PySem.EqMixed.ne_bool_str (qaP I q (by simp))
   | _=>exact absurd (show false=true from hs) Bool.false_ne_true
 | int i =>
   obtain ⟨t,rfl⟩:=rx
   cases y with
   | non=>cases ry;exact PySem.EqNone.ne_int_none (qaP I q (by simp))
   | int j=>obtain ⟨t',rfl⟩:=ry;exact ne_int (qaP I q (congrArg not qlY))
   | str j=>obtain ⟨t',rfl⟩:=ry;exact PySem.EqMixed.ne_int_str (qaP I q (by simp))
   | _=>exact absurd (show false=true from hs) Bool.false_ne_true
 | str i =>
   obtain ⟨t,rfl⟩:=rx
   cases y with
   | non=>cases ry;exact PySem.EqNone.ne_str_none (qaP I q (by simp))
   | bl j=>cases ry;exact PySem.EqMixed.ne_str_bool (qaP I q (by simp))
   | int j=>obtain ⟨t',rfl⟩:=ry;exact PySem.EqMixed.ne_str_int (qaP I q (by simp))
   | str j=>obtain ⟨t',rfl⟩:=ry;exact ne_str (qaP I q (congrArg not qmr))
   | _=>exact absurd (show false=true from hs) Bool.false_ne_true
 | byt i =>
   obtain ⟨t,rfl⟩:=rx
   cases y with
   | byt j=>obtain ⟨t',rfl⟩:=ry;exact PySem.W.ne_bytes (qaP I q (congrArg not qkC))
   | _=>exact absurd (show false=true from hs) Bool.false_ne_true
 | _=>cases y<;>exact absurd (show false=true from hs) Bool.false_ne_true
theorem qmz:OpR X (compareOp .Lt) (rI0 fun i j => .bl (decide (i<j))):=qrQ fun _ _ _ _ _ _ _ q=>lt_int q
theorem qmC:OpR X (compareOp .LtE) (rI0 fun i j => .bl (decide (i≤j))):=qrQ fun _ _ _ _ _ _ _ q=>le_int q
theorem qng:OpR X (compareOp .Gt) (rI0 fun i j => .bl (decide (j<i))):=qrQ fun _ _ _ _ _ _ _ q=>gt_int q
theorem qsD:OpR X (compareOp .GtE) (rI0 fun i j => .bl (decide (j≤i))):=qrQ fun _ _ _ _ _ _ _ q=>ge_int q
theorem OpR.or {f:Value→Value→Sem Value} {r r':R2} (h:OpR X f r) (h':OpR X f r'):OpR X f (fun x y H Q=>r x y H Q∨r' x y H Q):=by
 intro pins s σ H x y v u Q I rx ry q
 rcases q with q | q
 · exact h pins s σ H x y v u Q I rx ry q
 · exact h' pins s σ H x y v u Q I rx ry q
theorem qas (b:Expr) {op:CmpOp} (h:op ≠ .In:=by decide) (h2:op ≠ .NotIn:=by decide):behindInMarks op b=false:=by
 have e1:(op==CmpOp.In)=false:=by cases op<;>first | rfl | exact absurd rfl h
 have e2:(op==CmpOp.NotIn)=false:=by cases op<;>first | rfl | exact absurd rfl h2
 cases b<;>simp [behindInMarks,e1,e2]
theorem qgP {op:CmpOp} {r:R2} (ho:OpR X (compareOp op) r) (ha:PE X a ta) (hb:PE X b tb) (hm:behindInMarks op b=false):PE X (.Compare a [op] [b] pos) (tOp r ta tb):=by
 intro pins s σ H Q I h
 exact wpAny_Compare1 (qrT ha hb I h fun v u s2 x y H2 I2 rx ry q=>ho pins s2 σ H2 x y v u Q I2 rx ry q) hm
def qrm (t:TE):TT:=fun σ H Q=>t σ H fun x H'=>∃k,x = .bl k∧Q k H'
theorem qap {op:CmpOp} {r:R2} (ho:OpR X (compareOp op) r) (ha:PE X a ta) (hb:PE X b tb) (hm:behindInMarks op b=false):PT X (.Compare a [op] [b] pos) (qrm (tOp r ta tb)):=by
 intro pins s σ H Q I h
 refine wpAny_isTrue_Compare1 (thn (ha pins s σ H _ I h) fun v s1 ⟨x,H1,I1,r1,q1⟩=>thn (hb pins s1 σ H1 _ I1 q1) fun u s2 ⟨y,H2,I2,r2,q2⟩ =>
   thn (ho pins s2 σ H2 x y v u _ I2 r1 r2 q2) fun c s3 ⟨z,H3,I3,r3,k,e,q3⟩=>?_) hm
 subst e
 cases r3
 exact wpAny_truthy_bool ⟨H3,I3,q3⟩
def qob (r r':R2) (ta tb tc:TE):TE:=fun σ H Q=>ta σ H fun x H1=>tb σ H1 fun y H2=>r x y H2 fun z H3=>∃k,z = .bl k ∧
 (if k=true then tc σ H3 fun w' H4=>r' y w' H4 Q else Q (.bl false) H3)
theorem qg6 {op op':CmpOp} {r r':R2} (ho:OpR X (compareOp op) r) (ho':OpR X (compareOp op') r') (ha:PE X a ta) (hb:PE X b tb) (hc:PE X c tc)
   (hm:lastMarks [op,op'] [b,c]=false:=by with_unfolding_all rfl):PE X (.Compare a [op,op'] [b,c] pos) (qob r r' ta tb tc):=by
 intro pins s σ H Q I h
 refine Compare_chain (thn (ha pins s σ H _ I h) fun v s1 ⟨x,H1,I1,r1,q1⟩=>chain_link (thn (hb pins s1 σ H1 _ I1 q1) fun u s2 ⟨y,H2,I2,r2,q2⟩ =>
   thn (ho pins s2 σ H2 x y v u _ I2 r1 r2 q2) fun d s3 ⟨z,H3,I3,r3,k,e,q3⟩=>?_)) hm
 subst e
 cases r3
 refine wpAny_truthy_bool ?_
 cases k with
 | false=>exact ite_ff ⟨.bl false,H3,I3,rfl,q3⟩
 | true=>exact ite_tt (chain_last (thn (hc pins s3 σ H3 _ I3 q3) fun w' s4 ⟨z',H4,I4,r4,q4⟩=>ho' pins s4 σ H4 y z' u w' Q I4 r2 r4 q4))
theorem qga:(sizeLine:Nat)<2^63:=by rw [sizeLine_eq];decide
theorem qaM:OpR X (binaryOp .Add) (fun x y H Q=>∃i j,x = .str i∧y = .str j∧i.length+j.length≤sizeLine∧Q (.str (i++j)) H):=by
 intro pins s σ H x y v u Q I rx ry h
 obtain ⟨i,j,rfl,rfl,hz,q⟩:=h
 obtain ⟨t,rfl⟩:=rx
 obtain ⟨t',rfl⟩:=ry
 exact add_str (fun t' tk=>⟨.str (i++j),H,I.tok _,⟨_,rfl⟩,q⟩) hz
def qmU (b:Expr):Prop:=∀o i,subscripted b false o i=operate [o,i] (getItem o i)
theorem qdk (ha:PE X a ta) (hb:PE X b tb) (hs:qmU b) :
   PE X (.Subscript a b pos) (tOp (fun x y H Q=>∃z i c,x = .str z∧y = .int i∧0≤i∧i<2^63∧i<z.length∧z.cps[i.toNat]?=some c∧Q (.str ⟨#[c]⟩) H) ta tb):=by
 intro pins s σ H Q I h
 refine Subscript_ (qrT ha hb I h fun v u s2 x y H2 I2 rx ry q=>?_)
 obtain ⟨z,i,c,rfl,rfl,h0,h63,h1,hc,q⟩:=q
 obtain ⟨t,rfl⟩:=rx
 obtain ⟨t',rfl⟩:=ry
 have e:seqIndex? i z.length=some i.toNat:=PySem.StrLaws.seqIndex_nonneg h0 h1
 exact tail_any (typeIs_str s2 z t) slot_str_getitem.lookup (getItem_str (c:=c) (by
   have e1:decide (i < -(2^63:Int))=false:=decide_eq_false (by omega)
   have e2:decide (i≥2^63)=false:=decide_eq_false (by omega)
   rw [e1,e2]<;>rfl) (by rw [e];exact hc) ⟨.str ⟨#[c]⟩,H2,I2.tok _,⟨_,rfl⟩,q⟩) (hs _ _)
theorem qeC {x:V} {us:List Value} (r:qbc [x] us):∃u,us=[u]∧qbm x u:=by
 cases r with
 | cons r1 r2=>cases r2;exact ⟨_,rfl,r1⟩
theorem qoK {x y:V} {us:List Value} (r:qbc [x,y] us):∃u w',us=[u,w']∧qbm x u∧qbm y w':=by
 cases r with
 | cons r1 r2 =>
   cases r2 with
   | cons r3 r4=>cases r4;exact ⟨_,_,rfl,r1,r3⟩
theorem qk7:qcC X (.type "int") (fun xs H Q=>(∃i,xs=[.int i]∧Q (.int i) H)∨∃k,xs=[.bl k]∧Q (.int (if k then 1 else 0)) H):=by
 intro pins s σ H xs us Q I r h
 rcases h with ⟨i,rfl,q⟩ | ⟨k,rfl,q⟩
 · obtain ⟨u,rfl,t,rfl⟩:=qeC r
   exact call_int_int ⟨.int i,H,I,⟨_,rfl⟩,q⟩
 · obtain ⟨u,rfl,r1⟩:=qeC r
   cases r1
   exact call_int_bool ⟨.int (if k then 1 else 0),H,I.tok _,⟨_,rfl⟩,q⟩
theorem qhk:qcC X (.type "str") (fun xs H Q=>∃i,xs=[.int i]∧i.natAbs.log2<1920∧Q (.str (toString i)) H):=by
 intro pins s σ H xs us Q I r h
 obtain ⟨i,rfl,hz,q⟩:=h
 obtain ⟨u,rfl,t,rfl⟩:=qeC r
 exact PySem.P.str_of_int hz ⟨.str _,H,I.tok _,⟨_,rfl⟩,q⟩
end
end L2
namespace L2
open PySem PySem.Spec PyProof.Rows
structure qp8 (h:Heap) (x dx C:Addr) (mA:Str→Option Value):Prop where
 obj:h.get? x=some (PySem.W.instObj C dx)
 ns:h.Ns1 dx mA
 ne:dx≠x
theorem qlL {h:Heap} {dx:Addr} {mA:Str→Option Value} (n:h.Ns1 dx mA):∃od,h.get? dx=some od∧∀name,PySem.W.lookIn name od=some (mA name):=by
 obtain ⟨o,es,ep,ho,hd,hk,_,hm⟩:=n
 refine ⟨o,ho,fun name=>?_⟩
 have e:=hm name
 unfold nsFind findBy at e
 rw [←Array.find?_toList] at e
 unfold PySem.W.lookIn
 rw [hd]
 dsimp only
 split
 · rename_i y q
   rw [q] at e
   exact congrArg some e
 · rename_i q
   rw [q] at e
   have a:es.toList.any (·.refKey)=false:=by
     rw [List.any_eq_false]
     intro y hy
     obtain ⟨z,t,hkey⟩:=hk y (Array.mem_toList_iff.mp hy)
     simp [DictEntry.refKey,hkey]
   have a':¬es.toList.any (·.refKey)=true:=by rw [a];exact Bool.false_ne_true
   rw [if_neg a']
   exact congrArg some e
theorem qp8.look {h:Heap} {x dx C:Addr} {mA:Str→Option Value} (I:qp8 h x dx C mA):∃od,PySem.W.InstAt h x (PySem.W.instObj C dx) C (some od)∧∀name,PySem.W.lookIn name od=some (mA name) :=
 let ⟨od,ho,hl⟩:=qlL I.ns
 ⟨od,⟨I.obj,rfl,rfl,ho⟩,hl⟩
section
variable {prog:Program} {w:World} {A:Around} {E:Value→Shared→Prop} {s:Shared} {K:PySem.W.Frag} {x dx C f:Addr} {mA:Str→Option Value} {name:Str} {v:Value}
theorem qoC {expr:Bool} {Q:Value→Shared→Prop} (X:K.In s.heap) (I:qp8 s.heap x dx C mA) (hg:PySem.W.plainGet K C name=true) (hh:PySem.W.hasDictIn K C=true)
   (ha:PySem.W.findIn K (.ref C) name=some none) (hv:mA name=some v) (hv':PySem.W.handedIn v=true) (h:Q v { s with toks:=s.toks+1 }) :
   wpAny (model prog w) A (getAttr (.ref x) name expr) Q E s:=by
 obtain ⟨od,J,hl⟩:=I.look
 exact PySem.W.get_value X J (PySem.W.plainGet_of hg).1 (PySem.W.findObj_own hh ha rfl (by rw [hl,hv])) hv' h
theorem qmA {pl:Sem Bool} {Q:Value×List Value→Shared→Prop} (X:K.In s.heap) (I:qp8 s.heap x dx C mA) (hg:PySem.W.plainGet K C name=true)
   (hf:PySem.W.findIn K (.ref C) name=some (some (.ref f))) (ht:PySem.W.isFn K (.ref f)=true) (hv:mA name=none) (h:Q (.ref f,[.ref x]) s) :
   wpAny (model prog w) A (getMethod (.ref x) name pl) Q E s:=by
 obtain ⟨od,J,hl⟩:=I.look
 exact PySem.W.method_fn X J (PySem.W.plainGet_of hg).1 (PySem.W.plainGet_of hg).2 hf (beq_iff_eq.mp ht) (by show (PySem.W.lookIn name od).map (·.isSome)=some false;rw [hl,hv];rfl) h
theorem qoQ {ns:List Str} {Q:Unit→Shared→Prop} (X:K.In s.heap) (I:qp8 s.heap x dx C mA)
   (hs:PySem.W.findIn K (.ref C) "__setattr__" = some (some (.builtin "object.__setattr__"))) (hp:PySem.W.plainOver K C=true) (ht:PySem.W.takerIn K C name=some none) (hh:PySem.W.hasDictIn K C=true)
   (hw:PySem.Within mA ns) (hsz:ns.length≤sizeLine)
   (h:∀h',qp8 h' x dx C (fun y=>if y=name then some v else mA y)→Heap.SameBut dx s.heap h'→Q () { s with heap:=h',toks:=s.toks+2 }) :
   wpAny (model prog w) A (setAttr (.ref x) name v) Q E s:=by
 obtain ⟨od,J,hl⟩:=I.look
 refine PySem.W.set_plain X J hs (PySem.W.osa_open (s:={ s with toks:=s.toks+1 }) (r:=none) X J hp ht fun b=>?_)
 obtain ⟨cd,hc,hd'⟩:=PySem.W.any_some hh
 have hx:s.heap.get? x=some ⟨.ref C,some dx,.plain,#[]⟩:=I.obj
 refine wpAny_bind (wpAny_pure (wpAny_bind (wpAny_bind (wpAny_loadPart hx (wpAny_bind (PySem.W.Looks.here (s:={ s with toks:=s.toks+1 }) (PySem.W.looks_clsIn X hc) ?_))))))
 rw [hd']
 refine wpAny_pure (a:=some dx) (wpAny_bind (wpAny_pure (wpAny_bind ?_)))
 refine wpAny_nsSet1 (s:={ s with toks:=s.toks+1 }) I.ns fun h' hn2 hs2=>?_
 obtain ⟨oD,esD,epD,hoD,hdD,hcD⟩:=hn2.count (PySem.Within.cons name v hw)
 refine wpAny_bind (wpAny_lookBehind hoD (by rw [hdD];exact pastItsLine_dict (Nat.le_trans hcD (by rw [List.length_cons];omega))) ?_)
 exact wpAny_pure (h _ ⟨(hs2.2 _ (Ne.symm I.ne)).trans I.obj,hn2,I.ne⟩ hs2)
theorem qmH {R:Result→Shared→Prop} {vs:List Value} {kw:List (Str×Value)} (X:K.In s.heap) (hm:PySem.W.makesIn K C=true)
   (hi:PySem.W.findIn K (.ref C) "__init__" = some (some (.ref f))) (hf:PySem.W.typeIn K (.ref f)=some (.type "function"))
   (h:codeAny (model prog w) (A.under (.builtin "type.__call__" ⟨.ref C::vs,kw⟩)) (.call (.ref f) ⟨.ref (s.heap.objs.size+1)::vs,kw⟩) (PySem.W.InitBack (s.heap.objs.size+1) R)
     { s with heap:=(s.heap.push PySem.W.emptyDict).push (PySem.W.instObj C s.heap.objs.size) }) :
   codeAny (model prog w) A (.call (.ref C) ⟨vs,kw⟩) R s:=by
 obtain ⟨hh,g,d,t,os⟩:=s
 exact PySem.W.make_core (PySem.W.makes_of X hm) (PySem.W.looks_findIn X hi) (fun self=>PySem.W.bind_fn X self hf) (.inl rfl) h
end
def qg3 (f:Str) (v:V):List (Str×V)→List (Str×V)
 | []=>[(f,v)]
 | (g,x)::r=>if g=f then (g,v)::r else (g,x)::qg3 f v r
theorem qfw (f g:Str) (v:V):∀fs:List (Str×V),(qg3 f v fs).lookup g=if g=f then some v else fs.lookup g
 | []=>by
   show List.lookup g [(f,v)]=_
   by_cases h:g=f
   · have hb:(g==f)=true:=beq_iff_eq.mpr h
     simp only [List.lookup,hb,if_pos h]
   · have hb:(g==f)=false:=beq_eq_false_iff_ne.mpr h
     simp only [List.lookup,hb,if_neg h]
 | (k,x)::r=>by
   have ih:=qfw f g v r
   rw [show qg3 f v ((k,x)::r)=(if k=f then (k,v)::r else (k,x)::qg3 f v r) from rfl]
   by_cases hk:k=f
   · rw [if_pos hk]
     by_cases h:g=k
     · have hb:(g==k)=true:=beq_iff_eq.mpr h
       simp only [List.lookup,hb,if_pos (h.trans hk)]
     · have hb:(g==k)=false:=beq_eq_false_iff_ne.mpr h
       simp only [List.lookup,hb,if_neg (fun e:g=f=>h (e.trans hk.symm))]
   · rw [if_neg hk]
     by_cases h:g=k
     · have hb:(g==k)=true:=beq_iff_eq.mpr h
       simp only [List.lookup,hb,if_neg (fun e:g=f=>hk (h.symm.trans e))]
     · have hb:(g==k)=false:=beq_eq_false_iff_ne.mpr h
       simp only [List.lookup,hb]
       exact ih
theorem qe2 (f:Str) (v:V):∀fs:List (Str×V),f∈(qg3 f v fs).map (·.1)∧∀g,g∈fs.map (·.1)→g∈(qg3 f v fs).map (·.1)
 | []=>⟨by simp [qg3],fun g h=>by simp at h⟩
 | (k,x)::r=>by
   obtain ⟨i1,i2⟩:=qe2 f v r
   rw [show qg3 f v ((k,x)::r)=(if k=f then (k,v)::r else (k,x)::qg3 f v r) from rfl]
   by_cases hk:k=f
   · rw [if_pos hk]
     subst hk
     exact ⟨by simp,fun g h=>by simpa using h⟩
   · rw [if_neg hk]
     refine ⟨?_,fun g h=>?_⟩
     · rw [List.map_cons]
       exact List.mem_cons_of_mem _ i1
     · rw [List.map_cons] at h ⊢
       rcases List.mem_cons.mp h with e | e
       · exact List.mem_cons.mpr (.inl e)
       · exact List.mem_cons_of_mem _ (i2 g e)
theorem qfu (f:Str) (v:V):∀fs:List (Str×V),(qg3 f v fs).length≤fs.length+1
 | []=>by simp [qg3]
 | (k,x)::r=>by
   have ih:=qfu f v r
   rw [show qg3 f v ((k,x)::r)=(if k=f then (k,v)::r else (k,x)::qg3 f v r) from rfl]
   by_cases hk:k=f
   · rw [if_pos hk,List.length_cons,List.length_cons];omega
   · rw [if_neg hk,List.length_cons,List.length_cons];omega
theorem qhR.some_of {v:V} {o:Option Value} (r:qhR (some v) o):∃u,o=some u∧qbm v u:=by
 cases o with
 | none=>exact (show False from r).elim
 | some u=>exact ⟨u,rfl,r⟩
theorem qhR.none_of {o:Option Value} (r:qhR none o):o=none:=by
 cases o with
 | none=>rfl
 | some u=>exact (show False from r).elim
theorem qlD {v:V} {u:Value} (r:qbm v u):PySem.W.handedIn u=true:=by
 cases v with
 | non=>cases (show u=Value.none from r);rfl
 | bl b=>cases (show u=Value.bool b from r);rfl
 | int i=>obtain ⟨t,e⟩:=(show ∃t,u=Value.int i t from r);cases e;rfl
 | str x=>obtain ⟨t,e⟩:=(show ∃t,u=Value.str x t from r);cases e;rfl
 | byt b=>obtain ⟨t,e⟩:=(show ∃t,u=Value.bytes b t from r);cases e;rfl
 | flt b=>obtain ⟨t,e⟩:=(show ∃t,u=Value.float b t from r);cases e;rfl
 | ref a=>cases (show u=Value.ref a from r);rfl
 | ty n=>cases (show u=Value.type n from r);rfl
section
variable {P:Program} {w:World} {H H':Hp} {h h':Heap} {a C dx:Addr} {fs fs':List (Str×V)}
theorem qgH (hok:HOk P w H h) (e:H a=some (.ins C dx fs)):∃mA,qp8 h a dx C mA∧(∀f,qhR (fs.lookup f) (mA f))∧PySem.Within mA (fs.map (·.1))∧fs.length≤1000∧H dx=some (.own a):=by
 obtain ⟨d,z,ne,ob,mA,n,r,q⟩:=(show qbN P w H h a (.ins C dx fs) from hok a _ e)
 exact ⟨mA,⟨ob,n,ne⟩,r,q,z,d⟩
end
structure Cls (K:PySem.W.Frag) (C:Addr):Prop where
 pg:PySem.W.plainGet K C Str.empty=true
 hd:PySem.W.hasDictIn K C=true
 po:PySem.W.plainOver K C=true
 sa:PySem.W.findIn K (.ref C) "__setattr__" = some (some (.builtin "object.__setattr__"))
theorem Cls.get {K:PySem.W.Frag} {C:Addr} (c:Cls K C) (f:Str):PySem.W.plainGet K C f=true:=c.pg
def qds (K:PySem.W.Frag) (C:Addr) (f:Str):Prop:=PySem.W.findIn K (.ref C) f=some none
theorem qds.taker {K:PySem.W.Frag} {C:Addr} {f:Str} (n:qds K C f):PySem.W.takerIn K C f=some none:=by
 unfold PySem.W.takerIn
 rw [show PySem.W.findIn K (.ref C) f=some none from n]
 rfl
structure Con (K:PySem.W.Frag) (C:Addr) (f:Str) (v:V) (u:Value):Prop where
 at_:PySem.W.findIn K (.ref C) f=some (some u)
 rel:qbm v u
 get:PySem.W.specialIn K u "__get__" = some none
 cp:PySem.W.copiedNames.contains f=false
structure qqm (K:PySem.W.Frag) (C:Addr) (m:Str) (f:Addr):Prop where
 at_:PySem.W.findIn K (.ref C) m=some (some (.ref f))
 fn:PySem.W.isFn K (.ref f)=true
 kp:PySem.W.keepIn K (.ref f)=true
section
variable {X:Cx} {pins:List (Addr×Obj)} {σ:St} {H:Hp} {s:Shared} {a C dx:Addr} {fs:List (Str×V)} {f:Str} {v:V} {A:Around} {E:Value→Shared→Prop}
theorem qjY {b:Bool} {Q:Value→Shared→Prop} (I:Inv X pins σ H s) (e:H a=some (.ins C dx fs)) (c:Cls X.K C) (n:qds X.K C f) (l:fs.lookup f=some v)
   (h:∀u s',Inv X pins σ H s'→qbm v u→Q u s'):wpAny (model X.prog X.w) A (getAttr (.ref a) f b) Q E s:=by
 obtain ⟨mA,O,r,_,_,_⟩:=qgH I.hok e
 obtain ⟨u,hu,ru⟩:=qhR.some_of (v:=v) (o:=mA f) (by rw [←l];exact r f)
 exact qoC I.kIn O (c.get f) c.hd n hu (qlD ru) (h u _ (I.tok _) ru)
theorem qgc {m:Str} {g:Addr} {pl:Sem Bool} {Q:Value×List Value→Shared→Prop} (I:Inv X pins σ H s) (e:H a=some (.ins C dx fs)) (c:Cls X.K C) (k:qqm X.K C m g) (l:fs.lookup m=none)
   (h:Q (.ref g,[.ref a]) s):wpAny (model X.prog X.w) A (getMethod (.ref a) m pl) Q E s:=by
 obtain ⟨mA,O,r,_,_,_⟩:=qgH I.hok e
 have hn:mA m=none:=qhR.none_of (by rw [←l];exact r m)
 exact qmA I.kIn O (c.get m) k.at_ k.fn hn h
theorem qjU {y:V} {u:Value} {Q:Unit→Shared→Prop} (I:Inv X pins σ H s) (e:H a=some (.ins C dx fs)) (c:Cls X.K C) (n:qds X.K C f) (hl:fs.length<1000) (ry:qbm y u)
   (h:∀s',Inv X pins σ (upd H a (.ins C dx (qg3 f y fs))) s'→Q () s'):wpAny (model X.prog X.w) A (setAttr (.ref a) f u) Q E s:=by
 obtain ⟨mA,O,r,wi,_,ho⟩:=qgH I.hok e
 have hz:(fs.map (·.1)).length≤sizeLine:=by rw [List.length_map,sizeLine_eq];omega
 refine qoQ I.kIn O c.sa c.po n.taker c.hd wi hz fun h' O' sb=>h _ ?_
 have hd:∃o,h'.get? dx=some o:=let ⟨o,_,_,e',_⟩:=O'.ns;⟨o,e'⟩
 refine I.write (x:=a) (e:=dx) (by rw [e];exact True.intro) (.inr ho) (fun b q hb z=>(sb.2 b hb).trans z) hd ?_
 refine ⟨by rw [qax O.ne];exact ho,?_,O.ne,O'.obj,_,O'.ns,fun g=>?_,fun g hg=>?_⟩
 · have:=qfu f y fs;omega
 · show qhR ((qg3 f y fs).lookup g) (if g=f then some u else mA g)
   rw [qfw]
   by_cases q:g=f
   · rw [if_pos q,if_pos q];exact ry
   · rw [if_neg q,if_neg q];exact r g
 · by_cases q:g=f
   · rw [q];exact (qe2 f y fs).1
   · refine (qe2 f y fs).2 g (wi g fun z=>hg ?_)
     show (if g=f then some u else mA g)=none
     rw [if_neg q];exact z
theorem Inv.made (I:Inv X pins σ H s):Inv X pins σ (upd (upd H s.heap.objs.size (.own (s.heap.objs.size+1))) (s.heap.objs.size+1) (.ins C s.heap.objs.size []))
   { s with heap:=(s.heap.push PySem.W.emptyDict).push (PySem.W.instObj C s.heap.objs.size) }:=by
 have e1:(s.heap.push PySem.W.emptyDict).get? s.heap.objs.size=some PySem.W.emptyDict:=Heap.get?_push_size s.heap rfl
 have e2:((s.heap.push PySem.W.emptyDict).push (PySem.W.instObj C s.heap.objs.size)).get? (s.heap.objs.size+1)=some (PySem.W.instObj C s.heap.objs.size):=by
   have:=Heap.get?_push_size (s.heap.push PySem.W.emptyDict) (o:=PySem.W.instObj C s.heap.objs.size) rfl
   rwa [Heap.size_push] at this
 have e3:(s.heap.push PySem.W.emptyDict).Ns s.heap.objs.size (fun _=>none):=⟨PySem.W.emptyDict,#[],_,e1,rfl,(fun e he=>absurd he (by simp)),fun _=>rfl⟩
 have I1:=I.laid (a:=s.heap.objs.size) (o := .own (s.heap.objs.size+1)) (h':=s.heap.push PySem.W.emptyDict) (t':=s.toks) (fun b u q=>Heap.get?_push_of_some _ q) (Nat.le_refl _) ⟨_,e1⟩
 refine I1.laid (a:=s.heap.objs.size+1) (o := .ins C s.heap.objs.size []) (t':=s.toks) (fun b u q=>Heap.get?_push_of_some _ q) (Nat.le_of_eq (Heap.size_push _ _)) ?_
 have ne:s.heap.objs.size≠s.heap.objs.size+1:=Nat.ne_of_lt (Nat.lt_succ_self _)
 refine ⟨by rw [qax ne,qak],Nat.zero_le _,ne,e2,fun _=>none,(Heap.Ns1.of_empty e3).at fun o q=>Heap.get?_push_of_some _ q,fun _=>True.intro,fun y hy=>absurd rfl hy⟩
theorem qps {prog:Program} {w:World} {env:Env} {e:Expr} {f:Str} {pos:Pos} {s:Shared} {Q:Value→Shared→Prop} (hb:attributeBase e f env (eval e env)=eval e env)
   (h:wpAny (model prog w) A (eval e env) (fun o s₁=>wpAny (model prog w) A (getAttr o f true) Q E s₁) E s):wpAny (model prog w) A (eval (.Attribute e f pos) env) Q E s :=
 Attribute_any_ h (by rw [arm_eval_Attribute,hb])
end
def qsN (K:PySem.W.Frag) (ta:TE) (f:Str):TE:=fun σ H Q=>ta σ H fun x H1=>∃a C dx fs v,x = .ref a∧H1 a=some (.ins C dx fs)∧Cls K C∧qds K C f∧fs.lookup f=some v∧Q v H1
def qsf (K:PySem.W.Frag) (ta tv:TE) (f:Str):TS:=fun D σ H=>tv σ H fun y H1=>ta σ H1 fun x H2=>∃a C dx fs,x = .ref a∧H2 a=some (.ins C dx fs)∧Cls K C∧qds K C f∧fs.length<1000 ∧
 D.nx σ (upd H2 a (.ins C dx (qg3 f y fs)))
section
variable {X:Cx} {o e value:Expr} {f:Str} {pos pos' tpos:Pos} {ta tv:TE}
theorem qc8 (he:PE X e ta) (hb:attributeBase e f X.env (eval e X.env)=eval e X.env):PE X (.Attribute e f pos) (qsN X.K ta f):=by
 intro pins s σ H Q I h
 refine qps hb (thn (he pins s σ H _ I h) fun u s1 ⟨x,H1,I1,rx,a,C,dx,fs,v,ex,ea,c,n,l,q⟩=>?_)
 subst ex
 obtain rfl:u=Value.ref a:=rx
 exact qjY I1 ea c n l fun u' s2 I2 ru=>⟨v,H1,I2,ru,q⟩
theorem qnY (ha:PE X o ta) (hv:PE X value tv) (hs:swapsWith value (some (.Attribute o f pos')) pos.line X.env=pure false):PS X (.Assign [.Attribute o f pos'] value pos) (qsf X.K ta tv f):=by
 intro pins s σ H D I h
 refine plainObj_wpAny_Assign_Attribute (thn (hv pins s σ H _ I h) fun u s1 ⟨y,H1,I1,ry,q⟩=>thn (ha pins s1 σ H1 _ I1 q) fun ov s2 ⟨x,H2,I2,rx,a,C,dx,fs,ex,ea,c,n,l,q2⟩=>?_) hs
 subst ex
 obtain rfl:ov=Value.ref a:=rx
 exact qjU I2 ea c n l ry fun s3 I3=>⟨σ,_,I3,q2⟩
theorem qp9 {pl:Sem Bool} {m:Str} {apos:Pos} {args:List Expr} {pins:List (Addr×Obj)} {s:Shared} {σ:St} {H:Hp} {Q:Value→Shared→Prop} {te:TE} (he:PE X e te) (I:Inv X pins σ H s)
   (h:te σ H fun x H1=>∃a C dx fs g,x = .ref a∧H1 a=some (.ins C dx fs)∧Cls X.K C∧qqm X.K C m g∧fs.lookup m=none ∧
     ∀s1,Inv X pins σ H1 s1→wpAny (model X.prog X.w) X.A (callWith pos (.ref g) [.ref a] (backTo pos (starEach args X.env)) (backToKw pos (keywordEach [] X.env))) Q X.xe s1)
   (ht:eval (.Call (.Attribute e m apos) args [] pos) X.env=(do
     let ov ←eval e X.env
     standAt apos.atName
     let (f,first) ←holding [ov] (getMethod ov m pl)
     callWith pos f first (backTo pos (starEach args X.env)) (backToKw pos (keywordEach [] X.env)))) :
   wpAny (model X.prog X.w) X.A (eval (.Call (.Attribute e m apos) args [] pos) X.env) Q X.xe s:=by
 refine PySem.W.methodCall_KW (pl:=pl) (thn (he pins s σ H _ I h) fun u s1 ⟨x,H1,I1,rx,a,C,dx,fs,g,ex,ea,c,k,l,q⟩=>?_) ht
 subst ex
 obtain rfl:u=Value.ref a:=rx
 exact qgc I1 ea c k l (q s1 I1)
end
section
variable {X:Cx} {pins:List (Addr×Obj)} {σ:St} {H:Hp} {s:Shared} {A:Around} {E:Value→Shared→Prop} {Q:Value→Shared→Prop} {c:Value} {b:Bool}
inductive qj7 (K:PySem.W.Frag) (H:Hp):V→Value→Prop where
 | non:qj7 K H .non (.type "NoneType")
 | bl (x:Bool):qj7 K H (.bl x) (.type "bool")
 | int (i:Int):qj7 K H (.int i) (.type "int")
 | str (x:Str):qj7 K H (.str x) (.type "str")
 | flt (x:UInt64):qj7 K H (.flt x) (.type "float")
 | lst {a:Addr} {xs:List V} (e:H a=some (.lst xs)):qj7 K H (.ref a) (.type "list")
 | frz {a:Addr} {o:Obj} {xs:List V} (e:H a=some (.frz o (.lst xs))):qj7 K H (.ref a) (.type "list")
 | tup {a:Addr} {xs:List V} (e:H a=some (.tup xs)):qj7 K H (.ref a) (.type "tuple")
 | dK {a:Addr} {kvs:List (Key×V)} (e:H a=some (.dK kvs)):qj7 K H (.ref a) (.type "dict")
 | dT {a:Addr} {kvs:List (List Key×V)} (e:H a=some (.dT kvs)):qj7 K H (.ref a) (.type "dict")
 | ins {a C dx:Addr} {fs:List (Str×V)} (e:H a=some (.ins C dx fs)) (cl:Cls K C) (ha:PySem.W.findIn K (.ref C) "__class__" = some (some (.builtin "object.__class__")))
     (hn:PySem.W.specialIn K (.builtin "object.__class__") "__get__" = some (some (.builtin "getset_descriptor.__get__"))) (htk:PySem.W.takesIn K (.builtin "object.__class__")=some true)
     (hm:PySem.W.mroIn K C (.type "object")=some true):qj7 K H (.ref a) (.ref C)
theorem qkR {x:V} {u t:Value} (I:Inv X pins σ H s) (rx:qbm x u) (ty:qj7 X.K H x t) (e:PySem.W.kitOne X.K t c=some b) (h:∀tk,Q (.bool b) { s with toks:=tk }) :
   wpAny (model X.prog X.w) A (call (.builtin "isinstance") [u,c]) Q E s:=by
 cases ty with
 | non=>cases (show u=Value.none from rx);exact PySem.W.kia_one PySem.W.kitx_none I.kIn True.intro e (fun z=>nomatch z) h
 | bl y=>cases (show u=Value.bool y from rx);exact PySem.W.kia_one PySem.W.kitx_bool I.kIn True.intro e (fun z=>nomatch z) h
 | int i=>obtain ⟨t,q⟩:=(show ∃t,u=Value.int i t from rx);cases q;exact PySem.W.kia_one PySem.W.kitx_int I.kIn True.intro e (fun z=>nomatch z) h
 | str y=>obtain ⟨t,q⟩:=(show ∃t,u=Value.str y t from rx);cases q;exact PySem.W.kia_one PySem.W.kitx_str I.kIn True.intro e (fun z=>nomatch z) h
 | flt y=>obtain ⟨t,q⟩:=(show ∃t,u=Value.float y t from rx);cases q;exact PySem.W.kia_one PySem.W.kitx_float I.kIn True.intro e (fun z=>nomatch z) h
 | @lst a xs ea =>
   cases (show u=Value.ref a from rx)
   obtain ⟨_,_,n,_,h1⟩:=(show qbN X.prog X.w H s.heap a (.lst xs) from I.hok a _ ea)
   exact PySem.W.kia_one PySem.W.kitx_list I.kIn ⟨_,h1,rfl⟩ e (fun z=>nomatch z) h
 | @frz a ob xs ea =>
   cases (show u=Value.ref a from rx)
   obtain ⟨_,_,_,n,_,h1⟩:=(show qbN X.prog X.w H s.heap a (.frz ob (.lst xs)) from I.hok a _ ea)
   exact PySem.W.kia_one PySem.W.kitx_list I.kIn ⟨_,h1,rfl⟩ e (fun z=>nomatch z) h
 | @tup a xs ea =>
   cases (show u=Value.ref a from rx)
   obtain ⟨_,_,_,p⟩:=(show qbN X.prog X.w H s.heap a (.tup xs) from I.hok a _ ea)
   obtain ⟨o,h1,h2,_⟩:=p
   exact PySem.W.kia_one PySem.W.kitx_tuple I.kIn ⟨o,h1,h2⟩ e (fun z=>nomatch z) h
 | @dK a kvs ea =>
   cases (show u=Value.ref a from rx)
   obtain ⟨_,_,vs,_,p⟩:=(show qbN X.prog X.w H s.heap a (.dK kvs) from I.hok a _ ea)
   obtain ⟨o,es,ep,h1,h2,_⟩:=p
   exact PySem.W.kia_one PySem.W.kitx_dict I.kIn ⟨o,h1,h2.1⟩ e (fun z=>nomatch z) h
 | @dT a kvs ea =>
   cases (show u=Value.ref a from rx)
   obtain ⟨_,_,xs,_,o,es,ep,h1,h2,_⟩:=(show qbN X.prog X.w H s.heap a (.dT kvs) from I.hok a _ ea)
   exact PySem.W.kia_one PySem.W.kitx_dict I.kIn ⟨o,h1,h2.1⟩ e (fun z=>nomatch z) h
 | @ins a C dx fs ea cl ha hn htk hm =>
   cases (show u=Value.ref a from rx)
   obtain ⟨mA,O,_⟩:=qgH I.hok ea
   obtain ⟨od,J,_⟩:=O.look
   exact PySem.W.kia_one (PySem.W.kitx_own (cl.get _) cl.hd ha hn htk hm) I.kIn J e (fun z=>nomatch z) h
end
end L2
namespace L2
open PySem PySem.Spec PyProof.Rows
structure qdK (k:Nat) (A:Around):Prop where
 hd:A.handled=none
 dp:A.depth+3*k+5<recursionLimit
 un:A.units+16*k+200<cLine
theorem qdK.mono {j k:Nat} {A:Around} (r:qdK k A) (h:j≤k):qdK j A:=⟨r.hd,by have:=r.dp;omega,by have:=r.un;omega⟩
theorem qdK.deeper {k:Nat} {A:Around} (r:qdK (k+1) A) (env:Env):qdK k (A.deeper env) :=
 ⟨r.hd,by have:=r.dp;show A.depth+1+3*k+5<_;omega,by have:=r.un;show A.units+3+16*k+200<_;omega⟩
theorem qj2 {A:Around} {C:Addr} {us:List Value} {kw:List (Str×Value)}:(A.under (.builtin "type.__call__" ⟨.ref C::us,kw⟩)).depth=A.depth+1:=by
 first | rfl | simp [Around.under,Code.weight,Code.isCreation,Code.isGuard,Code.isCaller,Code.frames,Code.isFrame,guardIds]
theorem qjZ {A:Around} {C:Addr} {us:List Value} {kw:List (Str×Value)}:(A.under (.builtin "type.__call__" ⟨.ref C::us,kw⟩)).units=A.units+1:=by
 first | rfl | simp [Around.under,Code.cUnits,Code.frames,Code.isFrame]
theorem qdK.make {k:Nat} {A:Around} (r:qdK (k+1) A) (C:Addr) (us:List Value) (kw:List (Str×Value)):qdK k (A.under (.builtin "type.__call__" ⟨.ref C::us,kw⟩)) :=
 ⟨r.hd,by have:=r.dp;rw [qj2];omega,by have:=r.un;rw [qjZ];omega⟩
theorem qdK.depth {k:Nat} {A:Around} (r:qdK k A):A.depth<recursionLimit:=by have:=r.dp;omega
theorem qdK.units {k:Nat} {A:Around} (r:qdK k A):A.units+64<cLine:=by have:=r.un;omega
theorem qdK.units0 {k:Nat} {A:Around} (r:qdK k A):A.units<cLine:=by have:=r.un;omega
def qr1:TA:=fun _ H Q=>Q [] H
def qis (ta:TE) (tr:TA):TA:=fun σ H Q=>ta σ H fun x H1=>tr σ H1 fun xs H2=>Q (x::xs) H2
section
variable {X:Cx} {e:Expr} {es:List Expr} {te:TE} {t:TA} {pos:Pos}
theorem qab:PA X [] qr1:=fun _ _ _ _ H Q I h=>Calls.spliced_nil ⟨[],H,I,.nil,h⟩
theorem qaa (ha:PE X e te) (hr:PA X es t) (hs:starEach (e::es) X.env=(false,eval e X.env)::starEach es X.env:=by rfl):PA X (e::es) (qis te t):=by
 intro pos pins s σ H Q I h
 rw [hs]
 show wpAny _ _ (spliced ((false,eval e X.env)::backTo pos (starEach es X.env))) _ _ s
 refine Calls.spliced_cons (thn (ha pins s σ H _ I h) fun u s1 ⟨x,H1,I1,r1,q1⟩=>?_)
 exact thn (hr pos pins s1 σ H1 _ I1 q1) fun us s2 ⟨xs,H2,I2,r2,q2⟩=>⟨x::xs,H2,I2,.cons r1 r2,q2⟩
def qs1 (t:TA):TE:=fun σ H Q=>t σ H fun xs H1=>xs.length≤sizeLine∧∀p,H1 p=none→Q (.ref p) (upd H1 p (.tup xs))
def qsQ (t:TA):TE:=fun σ H Q=>t σ H fun xs H1=>xs.length≤sizeLine∧∀p,H1 p=none→Q (.ref p) (upd H1 p (.lst xs))
theorem qeZ {x1} (h:PA X es t):PE X (.Tuple es x1 pos) (qs1 t):=by
 intro pins s σ H Q I hq
 refine wpAny_Tuple_spliced (thn (h pos pins s σ H _ I hq) fun us s1 ⟨xs,H1,I1,r,z,q⟩=>⟨by rw [←r.length];exact z,?_⟩)
 have hf:H1 s1.heap.objs.size=none:=I1.hok.fresh (Nat.le_refl _)
 refine ⟨.ref s1.heap.objs.size,upd H1 s1.heap.objs.size (.tup xs),I1.laid (t':=s1.toks) (fun b u e=>Heap.get?_push_of_some _ e) (Nat.le_refl _) ?_,rfl,q _ hf⟩
 exact ⟨z,us,r,⟨_,Heap.get?_push_size _ rfl,rfl,_,rfl⟩⟩
theorem qa2 (h:PA X es t):PE X (.List es pos) (qsQ t):=by
 intro pins s σ H Q I hq
 refine wpAny_List_spliced (thn (h pos pins s σ H _ I hq) fun us s1 ⟨xs,H1,I1,r,z,q⟩=>⟨by rw [←r.length];exact z,?_⟩)
 have hf:H1 s1.heap.objs.size=none:=I1.hok.fresh (Nat.le_refl _)
 refine ⟨.ref s1.heap.objs.size,upd H1 s1.heap.objs.size (.lst xs),I1.laid (t':=s1.toks) (fun b u e=>Heap.get?_push_of_some _ e) (Nat.le_refl _) ?_,rfl,q _ hf⟩
 exact ⟨z,us,0,r,Heap.get?_push_size _ rfl⟩
end
abbrev Sp:=List V→Hp→VK→XK→Prop
abbrev CXT:=List Env→Hp→Shared→XK→Value→Shared→Prop
structure qpx (P:Program) (w:World) (K:PySem.W.Frag) (mg:Str→Option Value) (base:Heap) (A:Around) (outer:List Env) (s:Shared) (H:Hp):Prop where
 frames:A.frames=some outer
 mod:Mod K mg base
 bs:∀b o,base.get? b=some o→s.heap.get? b=some o∧H b=none
 bsz:base.objs.size≤s.heap.objs.size
 funs:s.heap.FunFrames base outer
 frf:∀b∈frs outer,H b=none
 hok:HOk P w H s.heap
 bare:AllBare s.gens
def CE (outer:List Env) (P:Program) (w:World) (H:Hp) (s:Shared) (Q:VK) (u:Value) (s':Shared):Prop :=
 ∃v H',s'.os=s.os∧AllBare s'.gens∧Un (frs outer) [] H H' s.heap s'.heap∧HOk P w H' s'.heap∧qbm v u∧Q v H'
def CR (CX:CXT) (outer:List Env) (P:Program) (w:World) (H:Hp) (s:Shared) (Q:VK) (E:XK) (r:Result) (s':Shared):Prop :=
 match r with
 | .ok (.ret u)=>CE outer P w H s Q u s'
 | .ok _=>False
 | .error e=>CX outer H s E e s'
structure qa1 (P:Program) (w:World) (K:PySem.W.Frag) (mg:Str→Option Value) (base:Heap) (CX:CXT) (k:Nat) (f:Addr) (fd:FuncData) (ps:List Str) (sp:Sp):Prop where
 len:∀vs H Q E,sp vs H Q E→vs.length=ps.length
 run:∀(A:Around) (outer:List Env) (s:Shared) (H:Hp) (args:Args) (us:List Value) (vs:List V) (Q:VK) (E:XK),qdK k A→qpx P w K mg base A outer s H→BindsTo s fd args (ps.zip us)→qbc vs us→sp vs H Q E →
   codeAny (model P w) A (.call (.ref f) args) (CR CX outer P w H s Q E) s
theorem qpx.make {P:Program} {w:World} {K:PySem.W.Frag} {mg:Str→Option Value} {base:Heap} {A:Around} {outer:List Env} {s:Shared} {H:Hp} (e:qpx P w K mg base A outer s H) (C:Addr) (us:List Value) (kw:List (Str×Value)) :
 qpx P w K mg base (A.under (.builtin "type.__call__" ⟨.ref C::us,kw⟩)) outer s H:=⟨by first | exact e.frames | (simpa [Around.under,Code.envs,Code.isFrame,pushEnvs] using e.frames),e.mod,e.bs,e.bsz,e.funs,e.frf,e.hok,e.bare⟩
section
variable {X:Cx} {pins:List (Addr×Obj)} {σ:St} {H:Hp} {s s':Shared}
theorem Inv.env0 (I:Inv X pins σ H s):qpx X.prog X.w X.K X.mg X.base X.A X.stack s H :=
 ⟨I.ok.frames,I.ok.mod,I.bs,Nat.le_trans I.ok.bsz I.sz,I.stack,I.stkFree,I.hok,I.bare⟩
theorem Inv.after {Q:VK} {u:Value} (I:Inv X pins σ H s) (h:CE X.stack X.prog X.w H s Q u s'):EP X pins σ Q u s':=by
 obtain ⟨v,H',os,bare,un,hok,r,q⟩:=h
 obtain ⟨hh,g,d,t,os'⟩:=s'
 obtain rfl:os'=s.os:=os
 exact ⟨v,H',I.call (h':=hh) (g':=g) (d':=d) (t':=t) (ch:=[]) un hok bare (fun b z=>absurd z (by simp)),r,q⟩
end
def qoL (sp:Sp) (dvs:List V) (E:XK) (t:TA):TE:=fun σ H Q=>t σ H fun vs H1=>sp (vs++dvs) H1 Q E
def qpg (C:Addr) (m:Str) (sp:Sp) (dvs:List V) (E:XK) (ta:TE) (t:TA):TE:=fun σ H Q=>ta σ H fun x H1=>∃a dx fs,x = .ref a∧H1 a=some (.ins C dx fs)∧fs.lookup m=none ∧
 t σ H1 fun vs H2=>sp (x::(vs++dvs)) H2 Q E
def qoO (C:Addr) (sp:Sp) (dvs:List V) (E:XK) (t:TA):TE:=fun σ H Q=>t σ H fun vs H1=>∀x dx,H1 x=none→H1 dx=none→dx≠x →
 sp (.ref x::(vs++dvs)) (upd (upd H1 dx (.own x)) x (.ins C dx [])) (fun v H2=>v = .non∧Q (.ref x) H2) E
def qdP (K:PySem.W.Frag) (fd:FuncData) (ps:List Str) (ds:List Value):Prop :=
 ∀(s:Shared) (us:List Value),K.In s.heap→(us++ds).length=ps.length→BindsTo s fd ⟨us,[]⟩ (ps.zip (us++ds))
theorem qdP.all {K:PySem.W.Frag} {fd:FuncData} {ps:List Str} (h:∀us:List Value,us.length=ps.length→bindArgs fd ⟨us,[]⟩=pure (ps.zip us)):qdP K fd ps []:=fun s us _ hl=>by
 rw [List.append_nil] at hl ⊢
 exact .of_eq (h us hl)
def qf2 (CX:CXT) (X:Cx) (E:XK):Prop:=∀(pins:List (Addr×Obj)) (σ:St) (H:Hp) (s:Shared) (e:Value) (s':Shared),Inv X pins σ H s→CX X.stack H s E e s'→X.xe e s'
section
variable {X:Cx} {CX:CXT} {k:Nat} {f C:Addr} {fd:FuncData} {ps:List Str} {sp:Sp} {dvs:List V} {ds:List Value} {E:XK} {x m:Str} {p pos apos:Pos} {e o:Expr} {es:List Expr} {ta:TE} {t:TA}
theorem qof {pins:List (Addr×Obj)} {σ:St} {H:Hp} {s:Shared} {Q:VK} {us:List Value} {vs:List V} (F:qa1 X.prog X.w X.K X.mg X.base CX k f fd ps sp) (hr:qdK k X.A) (hb:qdP X.K fd ps ds) (hd:qbc dvs ds) (hx:qf2 CX X E)
   (I:Inv X pins σ H s) (r:qbc vs us) (h:sp (vs++dvs) H Q E):wpAny (model X.prog X.w) X.A (call (.ref f) us) (EP X pins σ Q) X.xe s:=by
 have r2:qbc (vs++dvs) (us++ds):=r.append hd
 have hl:(us++ds).length=ps.length:=by rw [←r2.length];exact F.len _ _ _ _ h
 refine wpAny_call (codeAny_mono (F.run X.A X.stack s H ⟨us,[]⟩ (us++ds) (vs++dvs) Q E hr I.env0 (hb s us I.kIn hl) r2 h) fun r s' hq=>?_)
 cases r with
 | error e=>exact hx pins σ H s e s' I hq
 | ok fl =>
   cases fl with
   | ret u=>exact I.after hq
   | next=>exact False.elim hq
   | brk=>exact False.elim hq
   | cont=>exact False.elim hq
theorem qoD (F:qa1 X.prog X.w X.K X.mg X.base CX k f fd ps sp) (hr:qdK k X.A) (hg:Gl X x) (hm:X.mg x=some (.ref f)) (hk:PySem.W.keepIn X.K (.ref f)=true) (hb:qdP X.K fd ps ds) (hd:qbc dvs ds) (hx:qf2 CX X E)
   (ha:PA X (e::es) t) (hdb:(x==("__debug__" : Str))=false:=by decide) (he:starEach (e::es) X.env=(false,eval e X.env)::starEach es X.env:=by rfl) (hpl:(backTo pos (starEach es X.env)).any (·.1)=false:=by rfl) :
   PE X (.Call (.Name x p) (e::es) [] pos) (qoL sp dvs E t):=by
 intro pins s σ H Q I h
 refine wpAny_Call_Name_kw (qit I hg hm ?_ hdb)
 refine PySem.W.callWith_K (h₀:=X.base) I.ok.mod.kin hk (thn (ha pos pins s σ H _ I h) fun us s1 ⟨vs,H1,I1,r,q⟩=>⟨I1.kIn,?_⟩) he hpl
 exact qof F hr hb hd hx I1 r q
theorem qp5 {pl:Sem Bool} (he:PE X o ta) (c:Cls X.K C) (hm:qqm X.K C m f) (F:qa1 X.prog X.w X.K X.mg X.base CX k f fd ps sp) (hr:qdK k X.A) (hb:qdP X.K fd ps ds) (hd:qbc dvs ds) (hx:qf2 CX X E) (ha:PA X (e::es) t)
   (hst:starEach (e::es) X.env=(false,eval e X.env)::starEach es X.env:=by rfl) (hpl:(backTo pos (starEach es X.env)).any (·.1)=false:=by rfl)
   (ht:eval (.Call (.Attribute o m apos) (e::es) [] pos) X.env=(do
     let ov ←eval o X.env
     standAt apos.atName
     let (f,first) ←holding [ov] (getMethod ov m pl)
     callWith pos f first (backTo pos (starEach (e::es) X.env)) (backToKw pos (keywordEach [] X.env))):=by rfl) :
   PE X (.Call (.Attribute o m apos) (e::es) [] pos) (qpg C m sp dvs E ta t):=by
 intro pins s σ H Q I h
 refine PySem.W.methodCall_KW (pl:=pl) (thn (he pins s σ H _ I h) fun u s1 ⟨x,H1,I1,rx,a,dx,fs,ex,ea,l,q⟩=>?_) ht
 subst ex
 obtain rfl:u=Value.ref a:=rx
 refine qgc I1 ea c hm l ?_
 refine PySem.W.callWith_K (first:=[.ref a]) (h₀:=X.base) I.ok.mod.kin hm.kp (thn (ha pos pins s1 σ H1 _ I1 q) fun us s2 ⟨vs,H2,I2,r,q2⟩=>⟨I2.kIn,?_⟩) hst hpl
 exact qof (us := .ref a::us) (vs := .ref a::vs) F hr hb hd hx I2 (.cons rfl r) q2
structure Mk (K:PySem.W.Frag) (C f:Addr):Prop where
 makes:PySem.W.makesIn K C=true
 init:PySem.W.findIn K (.ref C) "__init__" = some (some (.ref f))
 fn:PySem.W.isFn K (.ref f)=true
 kp:PySem.W.keepIn K (.ref C)=true
theorem qmL {pins:List (Addr×Obj)} {σ:St} {H:Hp} {s:Shared} {Q:VK} {us:List Value} {vs:List V} (M:Mk X.K C f) (F:qa1 X.prog X.w X.K X.mg X.base CX k f fd ps sp) (hr:qdK (k+1) X.A) (hb:qdP X.K fd ps ds) (hd:qbc dvs ds)
   (hx:qf2 CX X E) (I:Inv X pins σ H s) (r:qbc vs us)
   (h:∀x dx,H x=none→H dx=none→dx≠x→sp (.ref x::(vs++dvs)) (upd (upd H dx (.own x)) x (.ins C dx [])) (fun v H2=>v = .non∧Q (.ref x) H2) E) :
   wpAny (model X.prog X.w) X.A (call (.ref C) us) (EP X pins σ Q) X.xe s:=by
 have hq:=h (s.heap.objs.size+1) s.heap.objs.size (I.hok.fresh (Nat.le_succ _)) (I.hok.fresh (Nat.le_refl _)) (Nat.ne_of_lt (Nat.lt_succ_self _))
 have I2:=Inv.made (C:=C) I
 have r2:qbc (V.ref (s.heap.objs.size+1)::(vs++dvs)) (Value.ref (s.heap.objs.size+1)::(us++ds)) := .cons rfl (r.append hd)
 have hl:(Value.ref (s.heap.objs.size+1)::us++ds).length=ps.length:=by
   have e:=r2.length
   rw [F.len _ _ _ _ hq] at e
   exact e.symm
 refine wpAny_call (qmH (f:=f) I.kIn M.makes M.init (beq_iff_eq.mp M.fn) (codeAny_mono (F.run _ X.stack _ _ ⟨Value.ref (s.heap.objs.size+1)::us,[]⟩ (Value.ref (s.heap.objs.size+1)::(us++ds)) _ _ E (hr.make C us [])
   (I2.env0.make C us []) (hb _ (Value.ref (s.heap.objs.size+1)::us) I2.kIn hl) r2 hq) fun r s' hq'=>?_))
 cases r with
 | error e=>exact hx pins σ _ _ e s' I2 hq'
 | ok fl =>
   cases fl with
   | ret u =>
     obtain ⟨v,H',I3,rv,ev,q3⟩:=I2.after hq'
     subst ev
     exact ⟨rv,⟨V.ref (s.heap.objs.size+1),H',I3,rfl,q3⟩⟩
   | next=>exact False.elim hq'
   | brk=>exact False.elim hq'
   | cont=>exact False.elim hq'
theorem qpT (M:Mk X.K C f) (F:qa1 X.prog X.w X.K X.mg X.base CX k f fd ps sp) (hr:qdK (k+1) X.A) (hg:Gl X x) (hm:X.mg x=some (.ref C)) (hb:qdP X.K fd ps ds) (hd:qbc dvs ds) (hx:qf2 CX X E)
   (ha:PA X (e::es) t) (hdb:(x==("__debug__" : Str))=false:=by decide) (he:starEach (e::es) X.env=(false,eval e X.env)::starEach es X.env:=by rfl) (hpl:(backTo pos (starEach es X.env)).any (·.1)=false:=by rfl) :
   PE X (.Call (.Name x p) (e::es) [] pos) (qoO C sp dvs E t):=by
 intro pins s σ H Q I h
 refine wpAny_Call_Name_kw (qit I hg hm ?_ hdb)
 refine PySem.W.callWith_K (h₀:=X.base) I.ok.mod.kin M.kp (thn (ha pos pins s σ H _ I h) fun us s1 ⟨vs,H1,I1,r,q⟩=>⟨I1.kIn,?_⟩) he hpl
 exact qmL M F hr hb hd hx I1 r q
end
section
variable {X:Cx} {CX:CXT} {k:Nat} {f C:Addr} {fd:FuncData} {ps ks:List Str} {sp:Sp} {E:XK} {x m:Str} {p pos apos kpos:Pos} {e o:Expr} {es:List Expr} {kws:List Keyword} {te ta:TE} {t tk:TA} {nm:Option Str}
structure qsR (K:PySem.W.Frag) (fd:FuncData) (ps ks:List Str) (g:List Value→List Value→List Value) (gV:List V→List V→List V):Prop where
 to:∀(s:Shared) (us ws:List Value),K.In s.heap→(g us ws).length=ps.length→BindsTo s fd ⟨us,ks.zip ws⟩ (ps.zip (g us ws))
 rel:∀{vs:List V} {us:List Value} {zs:List V} {ws:List Value},qbc vs us→qbc zs ws→qbc (gV vs zs) (g us ws)
variable {g:List Value→List Value→List Value} {gV:List V→List V→List V}
end
structure qao (N P:List Str) (sc:Scope):Prop where
 kind:sc.kind = .function
 co:sc.isCoroutine=false
 gen:sc.isGenerator=false
 nd:N.Nodup
 pre:N.take P.length=P
 par:∀x∈P,sc.names.lookup x=some .local∨sc.names.lookup x=some .cell
 nofree:∀y∈sc.names,y.2 ≠ .free
theorem qhu {kindOf:Str→Option NameKind} {x:Str}:∀{binds:List (Str×Value)} {m:Str→Option Value},(∀v,(x,v)∉binds)→bindL kindOf binds m x=m x
 | [],_,_=>rfl
 | (n,v)::r,m,h=>by
   unfold bindL
   rw [qhu fun w hw=>h w (List.mem_cons_of_mem _ hw)]
   split
   · have:x≠n:=by rintro rfl;exact h v List.mem_cons_self
     simp [this]
   · rfl
theorem qhs {kindOf:Str→Option NameKind} {x:Str}:∀{binds:List (Str×Value)} {m:Str→Option Value},(∀v,(x,v)∉binds)→bindC kindOf binds m x=m x
 | [],_,_=>rfl
 | (n,v)::r,m,h=>by
   unfold bindC
   rw [qhs fun w hw=>h w (List.mem_cons_of_mem _ hw)]
   split
   · rfl
   · have:x≠n:=by rintro rfl;exact h v List.mem_cons_self
     simp [this]
theorem qhy {kindOf:Str→Option NameKind} {x:Str} {v:Value}:∀{P:List Str} {vs:List Value} {i:Nat} {m:Str→Option Value},P.Nodup→P[i]?=some x→vs[i]?=some v→kindOf x=some .local →
   bindL kindOf (P.zip vs) m x=some v
 | [],_,_,_,_,h,_,_=>by simp at h
 | _::_,[],_,_,_,_,h,_=>by simp at h
 | p::P,w::vs,0,m,nd,h1,h2,hk=>by
   simp at h1 h2;subst h1;subst h2
   show bindL kindOf ((p,w)::P.zip vs) m p=_
   unfold bindL
   rw [qhu fun v hv=>(List.nodup_cons.mp nd).1 (List.of_mem_zip hv).1,if_pos hk]
   simp
 | p::P,w::vs,i+1,m,nd,h1,h2,hk=>by
   show bindL kindOf ((p,w)::P.zip vs) m x=_
   unfold bindL
   exact qhy (i:=i) (List.nodup_cons.mp nd).2 (by simpa using h1) (by simpa using h2) hk
theorem qh7 {kindOf:Str→Option NameKind} {x:Str} {v:Value}:∀{P:List Str} {vs:List Value} {i:Nat} {m:Str→Option Value},P.Nodup→P[i]?=some x→vs[i]?=some v→kindOf x≠some .local →
   bindC kindOf (P.zip vs) m x=some v
 | [],_,_,_,_,h,_,_=>by simp at h
 | _::_,[],_,_,_,_,h,_=>by simp at h
 | p::P,w::vs,0,m,nd,h1,h2,hk=>by
   simp at h1 h2;subst h1;subst h2
   show bindC kindOf ((p,w)::P.zip vs) m p=_
   unfold bindC
   rw [qhs fun v hv=>(List.nodup_cons.mp nd).1 (List.of_mem_zip hv).1,if_neg hk]
   simp
 | p::P,w::vs,i+1,m,nd,h1,h2,hk=>by
   show bindC kindOf ((p,w)::P.zip vs) m x=_
   unfold bindC
   exact qh7 (i:=i) (List.nodup_cons.mp nd).2 (by simpa using h1) (by simpa using h2) hk
def start (N:List Str) (vs:List V):St:=vs.map some++List.replicate (N.length-vs.length) none
def qoB (CX:CXT) (P:Program) (w:World) (K:PySem.W.Frag) (mg:Str→Option Value) (base:Heap) (N:List Str) (qual:Str) (scope:Scope) (f:Addr) (cd:Value) (A:Around) (outer:List Env) (s:Shared) (H:Hp) (E:XK):Cx where
 prog:=P
 w:=w
 K:=K
 mg:=mg
 base:=base
 A:=A.deeper (envOfC qual scope s.heap.objs.size f cd)
 N:=N
 s₀:=s
 H₀:=H
 env:=envOfC qual scope s.heap.objs.size f cd
 outer:=outer
 stack:=envOfC qual scope s.heap.objs.size f cd::outer
 ex:=[]
 calm:=true
 fn:=fun _=>true
 pn:=[]
 xe:=fun e s'=>wpAny (model P w) (A.deeper (envOfC qual scope s.heap.objs.size f cd)) (leaving (envOfC qual scope s.heap.objs.size f cd) e) (fun _ s''=>CX outer H s E e s'') (fun e' s''=>CX outer H s E e' s'') s'
theorem qjp {sc:Scope} {n:Nat} {x:Str} (h:sc.names.lookup x=some .cell):∃c,(cellsFrom n sc.names []).lookup x=some c:=by
 have q:=PySem.W.cellsFrom_some sc.names n [] (.inl h)
 exact Option.isSome_iff_exists.mp q
theorem qkX {CX:CXT} {P:Program} {w:World} {K:PySem.W.Frag} {mg:Str→Option Value} {base:Heap} {N ps:List Str} {qual:Str} {scope:Scope} {f:Addr} {cd:Value} {A:Around} {outer:List Env} {s s1:Shared} {H:Hp} {E:XK} {us:List Value} {vs:List V}
   (S:qao N ps scope) (hd:A.handled=none) (e0:qpx P w K mg base A outer s H) (hl:vs.length=ps.length) (r:qbc vs us)
   (x:InCallC s s.heap.objs.size (bindL (envOfC qual scope s.heap.objs.size f cd).kindOf (ps.zip us) fun _=>none) (cellsFrom (s.heap.objs.size+1) scope.names []) (bindC (envOfC qual scope s.heap.objs.size f cd).kindOf (ps.zip us) fun _=>none) s1) :
   Inv (qoB CX P w K mg base N qual scope f cd A outer s H E) [] (start N vs) H s1:=by
 have hpl:ps.length≤N.length:=by have:=congrArg List.length S.pre;rw [List.length_take] at this;omega
 obtain ⟨h1,tk,rfl,hk⟩:=x.done
 have noA:∀b:Addr,b∉(qoB CX P w K mg base N qual scope f cd A outer s H E).ex:=fun b z=>absurd (show b∈([]:List Addr) from z) (by simp)
 refine ⟨⟨e0.mod,S.kind,rfl,rfl,Nat.le_refl _,fun y z c h1 h2=>?_,fun y hy=>?_,fun y c _ h=>?_,fun _=>hd,Around.frames_deeper e0.frames,.inr ⟨rfl,rfl⟩,fun b z=>absurd z (noA b),e0.bs,e0.bsz,fun b _ _=>noA b,fun b z=>absurd z (noA b),e0.funs,e0.frf⟩,
   rfl,e0.bare,Un.kept hk,⟨_,x.toInCall.ns,fun i y v h1 h2 h3=>?_⟩,fun y c h=>⟨_,x.cell y c h⟩,e0.hok.fresh (Nat.le_refl _),fun y c h=>?_,fun p hp=>absurd (show p∈([]:List (Addr×Obj)) from hp) (by simp),e0.hok.kept hk,?_⟩
 · exact name_of_addr x.apart (PySem.mem_of_lookup h1) (PySem.mem_of_lookup h2)
 · have hy:scope.names.lookup y=some .cell∨scope.names.lookup y=some .free:=hy
   rcases hy with hy | hy
   · exact qjp hy
   · exact absurd rfl (S.nofree _ (PySem.mem_of_lookup hy))
 · exact Nat.le_of_lt (x.above y c (PySem.mem_of_lookup h))
 · have hi:i<vs.length:=by
     unfold start at h2
     by_cases hi:i<vs.length
     · exact hi
     · rw [List.getElem?_append_right (by simpa using hi)] at h2
       rw [List.getElem?_replicate] at h2
       split at h2<;>cases h2
   have ha:vs[i]?=some v:=by
     unfold start at h2
     rw [List.getElem?_append_left (by simpa using hi),List.getElem?_map] at h2
     cases e:vs[i]? with
     | none=>rw [e] at h2;cases h2
     | some a=>rw [e] at h2;cases h2;rfl
   obtain ⟨u,hu,rv⟩:=r.get ha
   have hp:ps[i]?=some y:=by
     rw [←S.pre,List.getElem?_take_of_lt (by omega)];exact h1
   have ndP:ps.Nodup:=by rw [←S.pre];exact S.nd.sublist (List.take_sublist _ _)
   refine ⟨u,rv,?_⟩
   rcases S.par y (List.mem_of_getElem? hp) with k | k
   · exact .inl ⟨k,qhy ndP hp hu k⟩
   · obtain ⟨c,e⟩:=qjp (n:=s.heap.objs.size+1) k
     refine .inr ⟨.inl k,c,e,?_⟩
     have q:=x.cell y c e
     rw [qh7 ndP hp hu (by show scope.names.lookup y≠_;rw [k];decide)] at q
     exact q
 · exact e0.hok.fresh (Nat.le_of_lt (x.above y c (PySem.mem_of_lookup h)))
 · unfold start
   show _=N.length
   rw [List.length_append,List.length_map,List.length_replicate]
   omega
theorem qsC {CX:CXT} {P:Program} {w:World} {K:PySem.W.Frag} {mg:Str→Option Value} {base:Heap} {k:Nat} {f:Addr} {name qual:Str} {params:Arguments} {body:List Stmt} {scope:Scope} {dV kV doc pm cdv ct oc:Value} {an od:Option Addr}
   {osl:Array (Option Value)} {N ps:List Str} {sp:Sp} (lk:K.lookup f=some ⟨oc,od,.func (PySem.W.fnOf name qual params body scope dV kV doc pm an cdv ct),osl⟩) (hcd:PySem.W.codeIn K cdv qual=true) (S:qao N ps scope)
   (len:∀vs H Q E,sp vs H Q E→vs.length=ps.length)
   (hbody:∀(A:Around) (outer:List Env) (s:Shared) (H:Hp) (vs:List V) (Q:VK) (E:XK),qdK k (A.deeper (envOfC qual scope s.heap.objs.size f cdv))→sp vs H Q E →
     ∃t,PSs (qoB CX P w K mg base N qual scope f cdv A outer s H E) body t∧t { nx:=fun _ H'=>Q .non H',rt:=Q } (start N vs) H) :
   qa1 P w K mg base CX (k+1) f (PySem.W.fnOf name qual params body scope dV kV doc pm an cdv ct) ps sp:=by
 refine ⟨len,fun A outer s H args us vs Q E hr e0 hb r hsp=>?_⟩
 have hl:=len _ _ _ _ hsp
 have KX:K.In s.heap:=e0.mod.kin.keeps fun b o e=>(e0.bs b o e).1
 have lim:s.heap.NoLimit:=e0.mod.nolimit.keeps fun b o e=>(e0.bs b o e).1
 have hkind:∀y∈ps.zip us,scope.names.lookup y.1=some .local∨(scope.names.lookup y.1=some .cell∧((cellsFrom (s.heap.objs.size+1) scope.names []).lookup y.1).isSome=true):=fun ⟨n,v⟩ hy=>by
   rcases S.par n (List.of_mem_zip hy).1 with q | q
   · exact .inl q
   · exact .inr ⟨q,PySem.W.cellsFrom_some _ _ _ (.inl q)⟩
 refine codeAny_call_function hr.depth (KX _ _ lk) rfl S.co S.gen rfl (PySem.W.codeRec_of KX hcd) (hb _ _ _ _ ?_)
 refine wpAny_newFunctionEnv_cells S.kind hkind fun env he s1 x=>?_
 subst he
 refine ⟨lim.keeps x.toInCall.keep,codeAny_func ?_⟩
 obtain ⟨t,ht,hq⟩:=hbody A outer s H vs Q E (hr.deeper _) hsp
 have I:Inv (qoB CX P w K mg base N qual scope f cdv A outer s H E) [] (start N vs) H s1:=qkX S hr.hd e0 hl r x
 refine wpAny_mono (ht [] s1 (start N vs) H _ I hq) (fun fl s' hs=>?_) fun e s' hs=>hs
 have fin:∀{σ':St} {H':Hp} {v:V} {u:Value},Inv (qoB CX P w K mg base N qual scope f cdv A outer s H E) [] σ' H' s'→qbm v u→Q v H'→CE outer P w H s Q u s' :=
   fun {σ' H' v u} J rv q=>⟨v,H',J.os,J.bare,J.base,J.hok,rv,q⟩
 cases fl with
 | ret u =>
   obtain ⟨v,σ',H',J,rv,q⟩:=hs
   exact fin J rv q
 | next =>
   obtain ⟨σ',H',J,q⟩:=hs
   exact fin (v:=V.non) (u:=Value.none) J rfl q
 | brk =>
   obtain ⟨_,_,_,q⟩:=hs
   exact False.elim q
 | cont =>
   obtain ⟨_,_,_,q⟩:=hs
   exact False.elim q
end L2
namespace L2
open PySem PySem.Spec PyProof.Rows
section
variable {X:Cx} {x:Str} {p pos:Pos} {e:Expr} {es:List Expr} {t:TA} {id T:String} {r:List V→Hp→VK→Prop}
def tCB (r:List V→Hp→VK→Prop) (t:TA):TE:=fun σ H Q=>t σ H fun vs H1=>r vs H1 Q
theorem qaA (hc:qcC X (.builtin id) r) (hg:Gl X x) (hm:X.mg x=none) (hv:bootBuiltins x=some (.builtin id)) (ha:PA X (e::es) t) (hn:x ≠ "__name__" := by decide) (hdb:(x==("__debug__" : Str))=false:=by decide)
   (he:starEach (e::es) X.env=(false,eval e X.env)::starEach es X.env:=by rfl) (hpl:(backTo pos (starEach es X.env)).any (·.1)=false:=by rfl):PE X (.Call (.Name x p) (e::es) [] pos) (tCB r t):=by
 intro pins s σ H Q I h
 refine wpAny_Call_Name_kw (qhB I hg hm hv ?_ hn hdb)
 exact PyProof.Rows.callWith_builtin1 (thn (ha pos pins s σ H _ I h) fun us s1 ⟨vs,H1,I1,r1,q1⟩=>hc pins s1 σ H1 vs us Q I1 r1 q1) he hpl
theorem qcn (hc:qcC X (.type T) r) (hg:Gl X x) (hm:X.mg x=none) (hv:bootBuiltins x=some (.type T)) (ha:PA X (e::es) t) (hn:x ≠ "__name__" := by decide) (hdb:(x==("__debug__" : Str))=false:=by decide)
   (he:starEach (e::es) X.env=(false,eval e X.env)::starEach es X.env:=by rfl) (hpl:(backTo pos (starEach es X.env)).any (·.1)=false:=by rfl):PE X (.Call (.Name x p) (e::es) [] pos) (tCB r t):=by
 intro pins s σ H Q I h
 refine wpAny_Call_Name_kw (qhB I hg hm hv ?_ hn hdb)
 exact PyProof.Rows.callWith_type1 (thn (ha pos pins s σ H _ I h) fun us s1 ⟨vs,H1,I1,r1,q1⟩=>hc pins s1 σ H1 vs us Q I1 r1 q1) he hpl
end
end L2
namespace HT
open PySem PyProof.Rows
section
open PySem.SeqAt
open PySem.AutoSeq1 (wpAny_loadPart')
open PySem.MeetsSeq PySem.MeetsSeq2 PySem.MeetsSeq3
end
section
variable {prog:Program} {w:World} {A:Around} {E:Value→Shared→Prop} {s:Shared}
def sIx (n d:Nat):Option Int→Nat
 | none=>d
 | some v=>if v<0 then (v+(n:Int)).toNat else min v.toNat n
theorem sIx_nat (n d k:Nat):sIx n d (some (k:Int))=min k n:=by
 show (if (k:Int)<0 then ((k:Int)+(n:Int)).toNat else min (k:Int).toNat n)=min k n
 rw [if_neg (by omega),Int.toNat_natCast]
theorem qrF (n d:Nat) (hd:d≤n) (o:Option Int):sIx n d o≤n:=by
 cases o with
 | none=>exact hd
 | some v =>
   show (if v<0 then (v+(n:Int)).toNat else min v.toNat n)≤n
   by_cases hv:v<0
   · rw [if_pos hv];omega
   · rw [if_neg hv];exact Nat.min_le_right _ _
theorem qlo (v:Int) (n d:Nat):(if v<0 then max (v+(n:Int)) 0 else min v (n:Int))=((sIx n d (some v):Nat):Int):=by
 show (if v<0 then max (v+(n:Int)) 0 else min v (n:Int))=(((if v<0 then (v+(n:Int)).toNat else min v.toNat n):Nat):Int)
 by_cases hv:v<0
 · simp only [if_pos hv];omega
 · simp only [if_neg hv];omega
theorem qjS (lo hi:Option Int) (n:Nat):Builtin.Slice.sliceAdjust lo hi 1 (n:Int)=(((sIx n 0 lo:Nat):Int),((sIx n n hi:Nat):Int)):=by
 have h1:¬((1:Int)<0):=by omega
 unfold Builtin.Slice.sliceAdjust
 simp only [h1,if_false]
 refine Prod.ext ?_ ?_
 · cases lo with
   | none=>rfl
   | some v=>exact qlo v n 0
 · cases hi with
   | none=>rfl
   | some v=>exact qlo v n n
theorem qki (i j:Nat):Builtin.Slice.slicePlaces (i:Int) (j:Int) 1=j-i:=by
 unfold Builtin.Slice.slicePlaces
 have h1:(1:Int)>0:=by omega
 simp only [h1,if_true,Int.ediv_one]
 split<;>omega
theorem qgh {v:Value} {o:Option Int} {Q:Option Int→Shared→Prop} (p:IsPart v o) (h:Q o s):wpAny (model prog w) A (Builtin.Slice.slicePartIndex v) Q E s:=by
 cases p with
 | none=>exact slicePart_none h
 | int i t=>exact slicePart_int h
theorem qeB {sl:Addr} {vl vu:Value} {lo hi:Option Int} {n:Nat} {Q:Int×Int×Nat→Shared→Prop} (hs:s.heap.IsSliceOf sl vl vu .none) (pl:IsPart vl lo) (pu:IsPart vu hi)
   (h:Q (((sIx n 0 lo:Nat):Int),1,sIx n n hi-sIx n 0 lo) s):wpAny (model prog w) A (Builtin.Slice.sliceApplied (.ref sl) (pure (n:Int))) Q E s:=by
 obtain ⟨os,hos,hcs,hds⟩:=id hs
 unfold Builtin.Slice.sliceApplied Builtin.Slice.sliceFields
 refine wpAny_bind (wpAny_bind (wpAny_field hos hds (x:=vl) rfl (wpAny_bind (wpAny_field hos hds (x:=vu) rfl (wpAny_bind (wpAny_field hos hds (x := .none) rfl (wpAny_pure ?_)))))))
 refine wpAny_bind (slicePart_none ?_)
 show wpAny _ _ (if ((1:Int)==0)=true then _ else _) _ _ s
 rw [if_neg (by decide)]
 refine wpAny_bind (qgh pl (wpAny_bind (qgh pu (wpAny_bind (wpAny_pure ?_)))))
 show wpAny _ _ (match Builtin.Slice.sliceAdjust lo hi 1 (n:Int) with | (lo,hi)=>pure (lo,(1:Int),Builtin.Slice.slicePlaces lo hi 1)) _ _ s
 rw [qjS lo hi n]
 show wpAny _ _ (pure (((sIx n 0 lo:Nat):Int),(1:Int),Builtin.Slice.slicePlaces ((sIx n 0 lo:Nat):Int) ((sIx n n hi:Nat):Int) 1)) _ _ s
 rw [qki]
 exact wpAny_pure h
theorem qny (xs:Array Value) (i k:Nat):((List.range k).filterMap fun (m:Nat)=>xs[((i:Int)+(m:Int)*1).toNat]?).toArray=((xs.toList.drop i).take k).toArray:=by
 have e:(fun (m:Nat)=>xs[((i:Int)+(m:Int)*1).toNat]?)=fun m=>xs[i+m]?:=by
   funext m
   have:((i:Int)+(m:Int)*1).toNat=i+m:=by omega
   rw [this]
 rw [e]
 have:=pick_run xs i k
 rw [List.filterMap_map] at this
 have e2:((fun x=>xs[x]?) ∘ fun x=>i+x)=fun m=>xs[i+m]?:=rfl
 rw [e2] at this
 rw [this]
theorem getItem_tuple_cut {t sl:Addr} {items:Array Value} {vl vu:Value} {lo hi:Option Int} {Q:Value→Shared→Prop} (ht:IsTup s.heap t items) (hs:s.heap.IsSliceOf sl vl vu .none) (pl:IsPart vl lo) (pu:IsPart vu hi)
   (hw:¬(sIx items.size 0 lo=0∧sIx items.size items.size hi=items.size))
   (h:Q (.ref s.heap.objs.size) { s with heap:=s.heap.push { cls := .type "tuple",data := .seq ((items.toList.drop (sIx items.size 0 lo)).take (sIx items.size items.size hi-sIx items.size 0 lo)).toArray } })
   (hsz:items.size≤sizeLine):wpAny (model prog w) A (getItem (.ref t) (.ref sl)) Q E s:=by
 have htake:sizeOk (.seq ((items.toList.drop (sIx items.size 0 lo)).take (sIx items.size items.size hi-sIx items.size 0 lo)).toArray):=by
   show ((items.toList.drop (sIx items.size 0 lo)).take (sIx items.size items.size hi-sIx items.size 0 lo)).toArray.size≤sizeLine
   rw [List.size_toArray,List.length_take,List.length_drop,Array.length_toList]
   omega
 have hj:sIx items.size items.size hi≤items.size:=qrF _ _ (Nat.le_refl _) hi
 obtain ⟨os,hos,hcs,hds⟩:=id hs
 have hTs:s.TypeIs (.ref sl) "slice" := ⟨os,hos,hcs⟩
 unfold getItem
 try with_reducible refine wpAny_holding ?_
 first | refine wpAny_bind (wpAny_pure ?_) | skip
 refine wpAny_bind (wpAny_sequenceKey ht.typeIs (by decide) ?_)
 refine wpAny_bind (wpAny_callSpecial?_slot (name:=Str.ofString "__getitem__") ht.typeIs PyProof.Rows.slot_tuple_getitem
   (wpAny_call_entry PyProof.Rows.slot_tuple_getitem ht.typeIs entry_tuple_getitem ?_ (args_tuple_getitem _ _)))
 show wpAny _ _ (Builtin.Tuple.tupleItemsOf (.ref t) >>= _) _ _ s
 refine wpAny_bind (tupleItemsOf_ ht ?_)
 refine wpAny_bind (wpAny_typeOf hTs ?_)
 rw [if_pos (by decide)]
 refine wpAny_bind (qeB hs pl pu ?_)
 have hno:¬((((sIx items.size 0 lo:Nat):Int)==0&&(1:Int)==1&&(sIx items.size items.size hi-sIx items.size 0 lo)==items.size)=true):=by
   intro q
   rw [Bool.and_eq_true,Bool.and_eq_true] at q
   have q1:((sIx items.size 0 lo:Nat):Int)=0:=eq_of_beq q.1.1
   have q2:sIx items.size items.size hi-sIx items.size 0 lo=items.size:=eq_of_beq q.2
   exact hw ⟨by omega,by omega⟩
 show wpAny _ _ (if (((sIx items.size 0 lo:Nat):Int)==0&&(1:Int)==1&&(sIx items.size items.size hi-sIx items.size 0 lo)==items.size)=true then _ else _) _ _ s
 rw [if_neg hno,qny]
 first
   | exact wpAny_bind (m:=Builtin.Tuple.tupleExact _) (wpAny_newObj_type (wpAny_pure ⟨_,rfl,wpAny_pure h⟩) htake)
   | exact wpAny_bind (m:=Builtin.Tuple.tupleExact _) (wpAny_newObj_type (wpAny_bind (wpAny_pure (wpAny_pure ⟨_,rfl,wpAny_pure h⟩))) htake)
   | exact wpAny_bind (wpAny_bind (m:=Builtin.Tuple.tupleExact _) (wpAny_newObj_type (wpAny_pure (wpAny_pure ⟨_,rfl,wpAny_pure h⟩)) htake))
   | exact wpAny_bind (wpAny_bind (m:=Builtin.Tuple.tupleExact _) (wpAny_newObj_type (wpAny_pure ⟨_,rfl,wpAny_pure h⟩) htake))
end
end HT
namespace L2
open PySem PySem.Spec PyProof.Rows
abbrev TO:=St→Hp→(Option Int→Hp→Prop)→Prop
def PO (X:Cx) (e:Option Expr) (t:TO):Prop :=
 ∀(pins:List (Addr×Obj)) (s:Shared) (σ:St) (H:Hp) (Q:Option Int→Hp→Prop),Inv X pins σ H s→t σ H Q →
   wpAny (model X.prog X.w) X.A (evalPart e X.env) (fun u s'=>∃o H',Inv X pins σ H' s'∧IsPart u o∧Q o H') X.xe s
def qlg:TO:=fun _ H Q=>Q none H
def qrk (t:TE):TO:=fun σ H Q=>t σ H fun x H1=>∃i,x = .int i∧Q (some i) H1
theorem qf7 {ns:List Int}:∀{us:List Value},qbc (ns.map V.int) us→IntsAre us ns:=by
 induction ns with
 | nil=>intro us r;rw [List.map_nil] at r;cases r;exact .nil
 | cons n ns ih =>
   intro us r
   rw [List.map_cons] at r
   cases r with
   | cons r1 r2 =>
     obtain ⟨t,e⟩:=r1
     subst e
     exact .cons n t (ih r2)
section
variable {X:Cx} {e:Expr} {te:TE} {lo hi:Option Expr} {tl th:TO} {pos p2:Pos}
theorem qd2:PO X none qlg:=by
 intro pins s σ H Q I h
 rw [evalPart_none]
 exact wpAny_pure ⟨none,H,I,.none,h⟩
theorem qd3 (h:PE X e te):PO X (some e) (qrk te):=by
 intro pins s σ H Q I hw
 rw [evalPart_some]
 refine thn (h pins s σ H _ I hw) fun u s1 ⟨x,H1,I1,r1,q1⟩=>?_
 obtain ⟨i,rfl,q⟩:=q1
 obtain ⟨t,rfl⟩:=r1
 exact ⟨some i,H1,I1,.int i t,q⟩
def SlR (X:Cx) (r:V→Option Int→Option Int→Hp→VK→Prop):Prop :=
 ∀(pins:List (Addr×Obj)) (s:Shared) (σ:St) (H:Hp) (x:V) (v vl vu:Value) (lo hi:Option Int) (sl:Addr) (Q:VK),Inv X pins σ H s→qbm x v→s.heap.IsSliceOf sl vl vu .none→IsPart vl lo→IsPart vu hi→r x lo hi H Q →
   ∃T id,typeLookup (.type T) "__getitem__" = pure (some (.builtin id))∧s.TypeIs v T∧wpAny (model X.prog X.w) X.A (getItem v (.ref sl)) (EP X pins σ Q) X.xe s
def tSl (r:V→Option Int→Option Int→Hp→VK→Prop) (te:TE) (tl th:TO):TE:=fun σ H Q=>te σ H fun x H1=>tl σ H1 fun l H2=>th σ H2 fun u H3=>r x l u H3 Q
theorem qc0 {r:V→Option Int→Option Int→Hp→VK→Prop} (hr:SlR X r) (he:PE X e te) (hl:PO X lo tl) (hu:PO X hi th):PE X (.Subscript e (.Slice lo hi none p2) pos) (tSl r te tl th):=by
 intro pins s σ H Q I h
 refine Subscript_ (thn (he pins s σ H _ I h) fun v s1 ⟨x,H1,I1,r1,q1⟩=>?_)
 refine wpAny_Slice (thn (hl pins s1 σ H1 _ I1 q1) fun vl s2 ⟨l,H2,I2,pl,q2⟩=>thn (hu pins s2 σ H2 _ I2 q2) fun vu s3 ⟨u,H3,I3,pu,q3⟩=>?_)
 rw [evalPart_none]
 refine wpAny_pure ?_
 have I4:Inv X pins σ H3 { s3 with heap:=s3.heap.push { cls := .type "slice",data := .fields #[vl,vu,.none] } }:=I3.kept (t':=s3.toks) fun b ob q=>Heap.get?_push_of_some _ q
 obtain ⟨T,id,hT,ht,hg⟩:=hr pins { s3 with heap:=s3.heap.push { cls := .type "slice",data := .fields #[vl,vu,.none] } } σ H3 x v vl vu l u s3.heap.objs.size Q I4 r1 (Heap.IsSliceOf.new ..) pl pu q3
 show wpAny (model X.prog X.w) X.A (subscriptTail e (.Slice lo hi none p2) v (.ref s3.heap.objs.size)) (EP X pins σ Q) X.xe { s3 with heap:=s3.heap.push { cls := .type "slice",data := .fields #[vl,vu,.none] } }
 exact tail_any (ops:=[.ref s3.heap.objs.size,v]) ht hT hg (by with_unfolding_all rfl)
def qmw (xs:List V) (lo hi:Option Int):List V:=(xs.drop (HT.sIx xs.length 0 lo)).take (HT.sIx xs.length xs.length hi-HT.sIx xs.length 0 lo)
theorem qfa (xs:List V) (lo hi:Option Int):(qmw xs lo hi).length≤xs.length:=by
 unfold qmw
 rw [List.length_take,List.length_drop]
 omega
def qsO (K:PySem.W.Frag):V→Option Int→Option Int→Hp→VK→Prop:=fun x lo hi H Q=>∃a xs,x = .ref a∧SqT K H a xs ∧
 ¬(HT.sIx xs.length 0 lo=0∧HT.sIx xs.length xs.length hi=xs.length)∧∀p,H p=none→Q (.ref p) (upd H p (.tup (qmw xs lo hi)))
theorem qrh:SlR X (qsO X.K):=by
 intro pins s σ H x v vl vu lo hi sl Q I rx hs pl pu h
 obtain ⟨a,xs,rfl,hx,hw,q⟩:=h
 cases rx
 obtain ⟨its,r,ht,hz⟩:=I.tuple hx
 have hlen:its.toArray.size=xs.length:=by rw [List.size_toArray];exact r.length.symm
 refine ⟨"tuple",_,PyProof.Rows.slot_tuple_getitem.lookup,ht.typeIs,?_⟩
 refine HT.getItem_tuple_cut ht hs pl pu (by rw [hlen];exact hw) ?_ (by rw [hlen];exact hz)
 rw [hlen]
 refine ⟨.ref s.heap.objs.size,_,I.laid (t':=s.toks) (o := .tup (qmw xs lo hi)) (fun b ob q=>Heap.get?_push_of_some _ q) (Nat.le_refl _) ?_,rfl,q _ (I.hok.fresh (Nat.le_refl _))⟩
 exact ⟨Nat.le_trans (qfa xs lo hi) hz,_,(r.drop (HT.sIx xs.length 0 lo)).take (HT.sIx xs.length xs.length hi-HT.sIx xs.length 0 lo),IsTup.new _ _⟩
end
end L2
namespace L2
open PySem PySem.Spec PyProof.Rows
def ixN (n:Nat) (i:Int):Option Nat:=if 0≤i then (if i<n then some i.toNat else none) else if -(n:Int)≤i then some (i+n).toNat else none
def atI {α:Type} (xs:List α) (i:Int):Option α:=(ixN xs.length i).bind fun j=>xs[j]?
theorem qkV {n:Nat} {i:Int} {j:Nat} (h:ixN n i=some j):seqIndex? i n=some j∧j<n∧-(n:Int)≤i∧i<n:=by
 unfold ixN at h
 by_cases h0:0≤i
 · rw [if_pos h0] at h
   by_cases h1:i<n
   · rw [if_pos h1] at h
     have e:i.toNat=j:=Option.some.inj h
     exact ⟨by rw [seqIndex_of h0 h1,e],by omega,by omega,h1⟩
   · rw [if_neg h1] at h;cases h
 · rw [if_neg h0] at h
   by_cases h1:-(n:Int)≤i
   · rw [if_pos h1] at h
     have e:(i+n).toNat=j:=Option.some.inj h
     exact ⟨by rw [seqIndex_neg (by omega) h1,e],by omega,h1,by omega⟩
   · rw [if_neg h1] at h;cases h
theorem qiE {α:Type} {xs:List α} {i:Int} {v:α} (h:atI xs i=some v):∃j,seqIndex? i xs.length=some j∧xs[j]?=some v∧j<xs.length∧-(xs.length:Int)≤i∧i<xs.length:=by
 unfold atI at h
 cases e:ixN xs.length i with
 | none=>rw [e] at h;cases h
 | some j =>
   rw [e] at h
   obtain ⟨h1,h2,h3,h4⟩:=qkV e
   exact ⟨j,h1,h,h2,h3,h4⟩
theorem qdg {α:Type} {xs:List α} {j:Nat} {v:α} (h:xs[j]?=some v):atI xs (j:Int)=some v:=by
 have hj:j<xs.length:=(List.getElem?_eq_some_iff.mp h).1
 have e:ixN xs.length (j:Int)=some j:=by
   unfold ixN
   rw [if_pos (by omega),if_pos (by omega)];simp
 unfold atI;rw [e];exact h
def qpl (b:Expr):Prop:=∀o i,subscripted b false o i=operate [o,i] (getItem o i)
def IxR (X:Cx) (r:R2):Prop :=
 ∀(value slice:Expr) (pins:List (Addr×Obj)) (s:Shared) (σ:St) (H:Hp) (x y:V) (v u:Value) (Q:VK),Inv X pins σ H s→qbm x v→qbm y u→r x y H Q →
   subscripted slice false v u=operate [v,u] (getItem v u)→wpAny (model X.prog X.w) X.A (subscriptTail value slice v u) (EP X pins σ Q) X.xe s
def MtR (X:Cx) (id:String) (r:V→List V→Hp→VK→Prop):Prop :=
 ∀(pins:List (Addr×Obj)) (s:Shared) (σ:St) (H:Hp) (x:V) (xs:List V) (v:Value) (us:List Value) (Q:VK),Inv X pins σ H s→qbm x v→qbc xs us→r x xs H Q →
   wpAny (model X.prog X.w) X.A (call (.builtin id) (v::us)) (EP X pins σ Q) X.xe s
section
variable {X:Cx} {a b:Expr} {ta tb:TE} {pos:Pos}
theorem IxR.or {r r':R2} (h:IxR X r) (h':IxR X r'):IxR X (fun x y H Q=>r x y H Q∨r' x y H Q):=by
 intro value slice pins s σ H x y v u Q I rx ry q hs
 rcases q with q | q
 · exact h value slice pins s σ H x y v u Q I rx ry q hs
 · exact h' value slice pins s σ H x y v u Q I rx ry q hs
theorem qba {r:R2} (hr:IxR X r) (ha:PE X a ta) (hb:PE X b tb) (hs:qpl b):PE X (.Subscript a b pos) (tOp r ta tb):=by
 intro pins s σ H Q I h
 exact Subscript_ (qrT ha hb I h fun v u s2 x y H2 I2 rx ry q=>hr a b pins s2 σ H2 x y v u Q I2 rx ry q (hs _ _))
def qsL (K:PySem.W.Frag):R2:=fun x y H Q=>∃p xs i v,x = .ref p∧y = .int i∧SqL K H p xs∧atI xs i=some v∧Q v H
def qsV (K:PySem.W.Frag):R2:=fun x y H Q=>∃p xs i v,x = .ref p∧y = .int i∧SqT K H p xs∧atI xs i=some v∧Q v H
def qs0:R2:=fun x y H Q=>∃z i c,x = .str z∧y = .int i∧z.length≤sizeLine∧atI z.cps.toList i=some c∧Q (.str ⟨#[c]⟩) H
theorem qpF:IxR X (qsL X.K):=by
 intro value slice pins s σ H x y v u Q I rx ry h hs
 obtain ⟨p,xs,i,z,rfl,rfl,hq,he,q⟩:=h
 cases rx
 obtain ⟨t,rfl⟩:=ry
 obtain ⟨its,r,pl,hz⟩:=I.list hq
 obtain ⟨j,h1,h2,h3,h4,h5⟩:=qiE he
 obtain ⟨w,ew,rw'⟩:=r.get h2
 have hl:=r.length
 have hn:=qga
 have fin:EP X pins σ Q w s:=⟨z,H,I,rw',q⟩
 by_cases h0:0≤i
 · have hj:i.toNat=j:=by
     rw [seqIndex_of h0 h5] at h1
     exact Option.some.inj h1
   exact item_listR pl.isList h0 (by omega) (by rw [hj];simpa using ew) fin hs
 · have hj:(i+(its.toArray.size:Int)).toNat=j:=by
     rw [seqIndex_neg (by omega) h4] at h1
     rw [List.size_toArray,←hl]
     exact Option.some.inj h1
   exact subscriptTail_builtinR (x:=w) pl.isList.typeIs slot_list_getitem.lookup
     (wpAny_getItem_list_neg (Q:=fun r s'=>r=w∧EP X pins σ Q r s') pl.isList (by omega) (by rw [List.size_toArray]<;>omega) (by omega) (by rw [hj];simpa using ew) ⟨rfl,fin⟩) hs
theorem qqT:IxR X (qsV X.K):=by
 intro value slice pins s σ H x y v u Q I rx ry h hs
 obtain ⟨p,xs,i,z,rfl,rfl,hq,he,q⟩:=h
 cases rx
 obtain ⟨t,rfl⟩:=ry
 obtain ⟨its,r,pl,hz⟩:=I.tuple hq
 obtain ⟨j,h1,h2,h3,h4,h5⟩:=qiE he
 obtain ⟨w,ew,rw'⟩:=r.get h2
 have hl:=r.length
 have hn:=qga
 have fin:EP X pins σ Q w s:=⟨z,H,I,rw',q⟩
 exact subscriptTail_builtinR (x:=w) pl.typeIs slot_tuple_getitem.lookup
   (getItem_tuple (j:=j) (Q:=fun r s'=>r=w∧EP X pins σ Q r s') pl (by omega) (by omega) (by rw [List.size_toArray,←hl];exact h1) (by simpa using ew) ⟨rfl,fin⟩) hs
theorem qrN:IxR X qs0:=by
 intro value slice pins s σ H x y v u Q I rx ry h hs
 obtain ⟨z,i,c,rfl,rfl,hz,he,q⟩:=h
 obtain ⟨t,rfl⟩:=rx
 obtain ⟨t',rfl⟩:=ry
 obtain ⟨j,h1,h2,h3,h4,h5⟩:=qiE he
 have hl:z.cps.toList.length=z.length:=by simp [Str.length]
 rw [hl] at h1 h4 h5
 have hn:=qga
 exact tail_any (typeIs_str s z t) slot_str_getitem.lookup (getItem_str (c:=c) (by
   have e1:decide (i < -(2^63:Int))=false:=decide_eq_false (by omega)
   have e2:decide (i≥2^63)=false:=decide_eq_false (by omega)
   rw [e1,e2,Bool.or_false]) (by rw [h1];simpa using h2) ⟨.str ⟨#[c]⟩,H,I.tok _,⟨_,rfl⟩,q⟩) hs
def rIx (K:PySem.W.Frag):R2:=fun x y H Q=>qsL K x y H Q∨qsV K x y H Q∨qs0 x y H Q
theorem qqn:IxR X (rIx X.K):=qpF.or (qqT.or qrN)
theorem qkq (its:List Value) (n j:Nat) (u:Value):Obj.mapSeq (·.setIfInBounds j u) { cls := .type "list",data := .seq its.toArray n }={ cls := .type "list",data := .seq (its.set j u).toArray n }:=by
 simp [Obj.mapSeq]
theorem Inv.lst {pins:List (Addr×Obj)} {σ:St} {H:Hp} {s:Shared} {p:Addr} {xs:List V} (I:Inv X pins σ H s) (h:H p=some (.lst xs)) :
   ∃(its:List Value) (n:Nat),qbc xs its∧s.heap.get? p=some { cls := .type "list",data := .seq its.toArray n }∧xs.length≤sizeLine:=by
 obtain ⟨z,its,n,r,e⟩:=I.hok p _ h
 exact ⟨its,n,r,e,z⟩
theorem Inv.lstUpd {pins:List (Addr×Obj)} {σ:St} {H:Hp} {s:Shared} {p:Addr} {xs ys:List V} {its its':List Value} {n n':Nat} {f:Obj→Obj} (I:Inv X pins σ H s) (h:H p=some (.lst xs))
   (ho:s.heap.get? p=some { cls := .type "list",data := .seq its.toArray n }) (hf:f { cls := .type "list",data := .seq its.toArray n }={ cls := .type "list",data := .seq its'.toArray n' }) (r:qbc ys its') (hz:ys.length≤sizeLine) (t:Nat) :
   Inv X pins σ (upd H p (.lst ys)) { s with heap:=s.heap.update p f,toks:=t }:=by
 have e:(s.heap.update p f).get? p=some { cls := .type "list",data := .seq its'.toArray n' }:=by
   rw [Heap.get?_update_self f ho (by rw [hf]<;>rfl),hf]
 refine I.write (x:=p) (e:=p) (by rw [h];trivial) (.inl rfl) (fun b u hb q=>(Heap.get?_update_other _ _ (Ne.symm hb)).trans q) ⟨_,e⟩ ?_
 exact ⟨hz,its',n',r,e⟩
def qrY:V→V→V→Hp→(Hp→Prop)→Prop:=fun o i v H Q=>∃p xs k j,o = .ref p∧i = .int k∧H p=some (.lst xs)∧ixN xs.length k=some j∧Q (upd H p (.lst (xs.set j v)))
theorem qmK:qsY X qrY:=by
 intro pins s σ H o i v ov iv u Q I ro ri rv h
 obtain ⟨p,xs,k,j,rfl,rfl,hp,hj,q⟩:=h
 cases ro
 obtain ⟨t,rfl⟩:=ri
 obtain ⟨its,n,r,ho,hz⟩:=I.lst hp
 obtain ⟨h1,h2,h3,h4⟩:=qkV hj
 have hl:=r.length
 have hn:=qga
 have I':Inv X pins σ (upd H p (.lst (xs.set j v))) { s with heap:=s.heap.update p (Obj.mapSeq (·.setIfInBounds j u)) } :=
   I.lstUpd hp ho (qkq its n j u) (r.set rv j) (by rw [List.length_set];exact hz) s.toks
 by_cases h0:0≤k
 · have hk:k.toNat=j:=by
     rw [seqIndex_of h0 h4] at h1
     exact Option.some.inj h1
   exact PySem.W.ki_setAt ho h0 (by omega) (by rw [List.size_toArray,←hl];exact h4) (by rw [hk];exact ⟨_,I',q⟩)
 · have hk:(k+(its.toArray.size:Int)).toNat=j:=by
     rw [seqIndex_neg (by omega) h3] at h1
     rw [List.size_toArray,←hl]
     exact Option.some.inj h1
   exact PySem.W.ki_setBack ho (by omega) (by rw [List.size_toArray,←hl];exact h3) (by omega) (by rw [hk];exact ⟨_,I',q⟩)
theorem qhX (lo hi:Option Int) (n:Nat):(sliceBounds lo hi none n).1=((HT.sIx n 0 lo:Nat):Int)∧(sliceBounds lo hi none n).2.1=((HT.sIx n n hi:Nat):Int)∧(sliceBounds lo hi none n).2.2=1:=by
 refine ⟨?_,?_,rfl⟩
 · cases lo with
   | none=>simp [sliceBounds,HT.sIx]
   | some i =>
     simp only [sliceBounds,HT.sIx,Option.getD_none,show (1:Int)>0 by decide,if_true]
     by_cases h:i<0
     · simp only [h,if_true]<;>omega
     · simp only [h,if_false]<;>omega
 · cases hi with
   | none=>simp [sliceBounds,HT.sIx]
   | some i =>
     simp only [sliceBounds,HT.sIx,Option.getD_none,show (1:Int)>0 by decide,if_true]
     by_cases h:i<0
     · simp only [h,if_true]<;>omega
     · simp only [h,if_false]<;>omega
theorem qgu (its:List Value) (lo hi:Option Int):slicePick its.toArray lo hi none=((its.drop (HT.sIx its.length 0 lo)).take (HT.sIx its.length its.length hi-HT.sIx its.length 0 lo)).toArray:=by
 obtain ⟨h1,h2,h3⟩:=qhX lo hi its.toArray.size
 unfold slicePick
 rw [h1,h2,h3]
 simp only [sliceRange_one,pick_run,List.size_toArray]<;>rfl
def qsM (K:PySem.W.Frag):V→Option Int→Option Int→Hp→VK→Prop:=fun x lo hi H Q=>∃a xs,x = .ref a∧SqL K H a xs∧∀p,H p=none→Q (.ref p) (upd H p (.lst (qmw xs lo hi)))
theorem qp2:SlR X (qsM X.K):=by
 intro pins s σ H x v vl vu lo hi sl Q I rx hs pl pu h
 obtain ⟨a,xs,rfl,hx,q⟩:=h
 cases rx
 obtain ⟨its,r,ht,hz⟩:=I.list hx
 have hlen:=r.length
 refine ⟨"list",_,slot_list_getitem.lookup,ht.isList.typeIs,?_⟩
 refine wpAny_getItem_list_slice ht.isList hs pl pu .none (by simp) ?_ (by rw [List.size_toArray]<;>omega)
 rw [qgu,←hlen]
 refine ⟨.ref s.heap.objs.size,_,I.laid (t':=s.toks) (o := .lst (qmw xs lo hi)) (fun b ob q=>Heap.get?_push_of_some _ q) (Nat.le_refl _) ?_,rfl,q _ (I.hok.fresh (Nat.le_refl _))⟩
 exact ⟨Nat.le_trans (qfa xs lo hi) hz,_,0,(r.drop (HT.sIx xs.length 0 lo)).take (HT.sIx xs.length xs.length hi-HT.sIx xs.length 0 lo),Heap.get?_push_size _ rfl⟩
def qbU:V→Bool
 | .non=>true
 | .bl _=>true
 | .int _=>true
 | .str _=>true
 | _=>false
def eqV:V→V→Bool
 | .non,.non=>true
 | .bl a,.bl b=>a==b
 | .bl a,.int b=>(if a then 1 else 0)==b
 | .int a,.bl b=>a==(if b then 1 else 0)
 | .int a,.int b=>a==b
 | .str a,.str b=>a==b
 | _,_=>false
theorem qod {A:Around} {s:Shared} {y x:V} {u v:Value} (ry:qbm y u) (rx:qbm x v) (fy:qbU y=true) (fx:qbU x=true):SeqAt.EqAt A s u v (eqV y x):=by
 cases y with
 | non =>
   cases ry
   cases x with
   | non=>cases rx;exact SeqAt.EqAt.same _
   | bl b=>cases rx;exact SeqAt.EqAt.none_bool b
   | int b=>obtain ⟨t,rfl⟩:=rx;exact SeqAt.EqAt.none_int b t
   | str b=>obtain ⟨t,rfl⟩:=rx;exact SeqAt.EqAt.none_str b t
   | _=>exact absurd (show false=true from fx) Bool.false_ne_true
 | bl a =>
   cases ry
   cases x with
   | non=>cases rx;exact SeqAt.EqAt.bool_none a
   | bl b=>cases rx;exact SeqAt.EqAt.bool_bool a b
   | int b=>obtain ⟨t,rfl⟩:=rx;exact SeqAt.EqAt.bool_int a b t
   | str b=>obtain ⟨t,rfl⟩:=rx;exact SeqAt.EqAt.bool_str a b t
   | _=>exact absurd (show false=true from fx) Bool.false_ne_true
 | int a =>
   obtain ⟨t',rfl⟩:=ry
   cases x with
   | non=>cases rx;exact SeqAt.EqAt.int_none a t'
   | bl b=>cases rx;exact SeqAt.EqAt.int_bool a t' b
   | int b=>obtain ⟨t,rfl⟩:=rx;exact SeqAt.EqAt.int_int a t' b t
   | str b=>obtain ⟨t,rfl⟩:=rx;exact SeqAt.EqAt.int_str a t' b t
   | _=>exact absurd (show false=true from fx) Bool.false_ne_true
 | str a =>
   obtain ⟨t',rfl⟩:=ry
   cases x with
   | non=>cases rx;exact SeqAt.EqAt.str_none a t'
   | bl b=>cases rx;exact SeqAt.EqAt.str_bool a t' b
   | int b=>obtain ⟨t,rfl⟩:=rx;exact SeqAt.EqAt.str_int a t' b t
   | str b=>obtain ⟨t,rfl⟩:=rx;exact SeqAt.EqAt.str_str a t' b t
   | _=>exact absurd (show false=true from fx) Bool.false_ne_true
 | _=>exact absurd (show false=true from fy) Bool.false_ne_true
def eqU (x:V) (u:Value):Bool:=match u with
 | .none=>eqV .non x
 | .bool b=>eqV (.bl b) x
 | .int i _=>eqV (.int i) x
 | .str z _=>eqV (.str z) x
 | _=>false
theorem qoq {x y:V} {u:Value} (r:qbm y u) (f:qbU y=true):eqU x u=eqV y x:=by
 cases y with
 | non=>cases r;rfl
 | bl b=>cases r;rfl
 | int i=>obtain ⟨t,rfl⟩:=r;rfl
 | str z=>obtain ⟨t,rfl⟩:=r;rfl
 | _=>exact absurd (show false=true from f) Bool.false_ne_true
theorem qir {x:V}:∀{xs:List V} {us:List Value},qbc xs us→xs.all qbU=true→us.any (eqU x)=xs.any fun y=>eqV y x
 | _,_,.nil,_=>rfl
 | y::xs,u::us,.cons r t,f=>by
   rw [List.all_cons,Bool.and_eq_true] at f
   rw [List.any_cons,List.any_cons,qoq r f.1,qir t f.2]
theorem qgW {A:Around} {s:Shared} {x:V} {v:Value} (rx:qbm x v) (fx:qbU x=true):∀{xs:List V} {us:List Value},qbc xs us→xs.all qbU=true→∀u∈us,SeqAt.EqAt A s u v (eqU x u)
 | _,_,.nil,_=>fun u hu=>by cases hu
 | y::xs,u::us,.cons r t,f=>fun u' hu=>by
   rw [List.all_cons,Bool.and_eq_true] at f
   rcases List.mem_cons.mp hu with rfl | hu
   · rw [qoq r f.1];exact qod r rx f.1 fx
   · exact qgW rx fx t f.2 u' hu
def inV (x:V) (xs:List V):Bool:=xs.any fun y=>eqV y x
def rIn (K:PySem.W.Frag) (neg:Bool):R2:=fun x y H Q=>∃p xs,y = .ref p∧(SqL K H p xs∨SqT K H p xs)∧qbU x=true∧xs.all qbU=true∧Q (.bl (if neg then !inV x xs else inV x xs)) H
theorem qic:OpR X (compareOp .NotIn) (rIn X.K true):=by
 intro pins s σ H x y v u Q I rx ry h
 obtain ⟨p,xs,rfl,hq,fx,fs,q⟩:=h
 cases ry
 rcases hq with hq | hq
 · obtain ⟨its,r,pl,hz⟩:=I.list hq
   refine SeqAt.notIn_listAt (eqU x) pl.isList (fun w hw=>qgW rx fx r fs w (by simpa using hw)) ⟨.bl _,H,I,rfl,?_⟩
   rw [show its.toArray.any (eqU x)=its.any (eqU x) by simp,qir r fs]
   exact q
 · obtain ⟨its,r,pl,hz⟩:=I.tuple hq
   refine SeqAt.notIn_tupleAt (eqU x) pl (fun w hw=>qgW rx fx r fs w (by simpa using hw)) ⟨.bl _,H,I,rfl,?_⟩
   rw [show its.toArray.any (eqU x)=its.any (eqU x) by simp,qir r fs]
   exact q
theorem qhd:qcC X (.builtin "len") (fun xs H Q=>∃p ys,xs=[.ref p]∧(SqL X.K H p ys∨SqT X.K H p ys)∧Q (.int ys.length) H):=by
 intro pins s σ H xs us Q I r h
 obtain ⟨p,ys,rfl,hq,q⟩:=h
 obtain ⟨u,rfl,rx⟩:=qeC r
 cases rx
 have hn:=qga
 rcases hq with hq | hq
 · obtain ⟨its,r',pl,hz⟩:=I.list hq
   have hlen:=r'.length
   exact Calls.call_len_list pl.isList (by simp only [List.size_toArray]<;>omega) ⟨.int ys.length,H,I.tok _,⟨s.toks+1,by rw [List.size_toArray,hlen]⟩,q⟩
 · obtain ⟨its,r',pl,hz⟩:=I.tuple hq
   have hlen:=r'.length
   exact len_tuple pl (by simp only [List.size_toArray]<;>omega) ⟨.int ys.length,H,I.tok _,⟨s.toks+1,by rw [List.size_toArray,hlen]⟩,q⟩
theorem qhf:qcC X (.builtin "len") (fun xs H Q=>∃z,xs=[.str z]∧z.length≤sizeLine∧Q (.int z.length) H):=by
 intro pins s σ H xs us Q I r h
 obtain ⟨z,rfl,hz,q⟩:=h
 obtain ⟨u,rfl,t,rfl⟩:=qeC r
 have hn:=qga
 exact len_str (by omega) ⟨.int z.length,H,I.tok _,⟨_,rfl⟩,q⟩
def tyV (K:PySem.W.Frag) (T:String) (x:V) (H:Hp):Prop:=match x with
 | .str _=>T = "str"
 | .int _=>T = "int"
 | .ref p=>(T = "list" ∧ ∃xs,SqL K H p xs)∨(T = "tuple" ∧ ∃o,K.lookup p=some o∧o.cls = .type "tuple" ∧ o.dict=none) ∨
     (T = "dict" ∧ ((∃kvs,H p=some (.dK kvs))∨∃kvs,H p=some (.dT kvs)))∨(T = "set" ∧ ∃S n,H p=some (.set S n))
 | _=>False
theorem qnZ {pins:List (Addr×Obj)} {σ:St} {H:Hp} {s:Shared} {T:String} {x:V} {v:Value} (I:Inv X pins σ H s) (r:qbm x v) (ty:tyV X.K T x H) :
   s.TypeIs v T∧∀a,v = .ref a→∃ob,s.heap.get? a=some ob∧ob.dict=none:=by
 cases x with
 | str z =>
   obtain ⟨t,rfl⟩:=r
   cases (show T = "str" from ty)
   exact ⟨typeIs_str s z t,fun _ e=>nomatch e⟩
 | int i =>
   obtain ⟨t,rfl⟩:=r
   cases (show T = "int" from ty)
   exact ⟨typeIs_int s i t,fun _ e=>nomatch e⟩
 | ref p =>
   cases r
   rcases ty with ⟨rfl,xs,hq⟩ | ⟨rfl,o,hk,hc,hd⟩ | ⟨rfl,hk⟩ | ⟨rfl,S,n,hk⟩
   · obtain ⟨its,_,pl,_⟩:=I.list hq
     refine ⟨pl.isList.typeIs,fun a e=>?_⟩
     cases e
     obtain ⟨o,n,e,c,hd,_⟩:=pl
     exact ⟨o,e,hd⟩
   · refine ⟨⟨o,I.kIn p o hk,hc⟩,fun a e=>?_⟩
     cases e
     exact ⟨o,I.kIn _ o hk,hd⟩
   · have z:∃o,s.heap.get? p=some o∧o.ExactDict:=by
       rcases hk with ⟨kvs,hk⟩ | ⟨kvs,hk⟩
       · obtain ⟨_,_,_,_,o,_,_,e,ex,_⟩:=I.hok p _ hk
         exact ⟨o,e,ex⟩
       · obtain ⟨_,_,_,_,o,_,_,e,ex,_⟩:=I.hok p _ hk
         exact ⟨o,e,ex⟩
     obtain ⟨o,e,ex⟩:=z
     refine ⟨⟨o,e,ex.1⟩,fun a e2=>?_⟩
     cases e2
     exact ⟨o,e,ex.2.1⟩
   · obtain ⟨o,_,_,_,e,ex,_⟩:=I.hok p _ hk
     refine ⟨⟨o,e,ex.1⟩,fun a e2=>?_⟩
     cases e2
     exact ⟨o,e,ex.2.1⟩
 | _=>exact False.elim ty
def qsS (K:PySem.W.Frag) (T:String) (r:V→List V→Hp→VK→Prop) (to:TE):TE:=fun σ H Q=>to σ H fun x H1=>tyV K T x H1∧r x [] H1 Q
def tBM (K:PySem.W.Frag) (T:String) (r:V→List V→Hp→VK→Prop) (to:TE) (t:TA):TE:=fun σ H Q=>to σ H fun x H1=>tyV K T x H1∧t σ H1 fun xs H2=>r x xs H2 Q
variable {o e:Expr} {es:List Expr} {to:TE} {t:TA} {name:Str} {apos cpos:Pos} {T id:String} {r:V→List V→Hp→VK→Prop}
theorem qru (pa:PlainAttrs T) (slot:Slot T name id) (hty:typeOf (.builtin id)=pure (.type "method_descriptor")) (hm:MtR X id r) (ho:PE X o to)
   (hbase:attributeBase o name X.env (eval o X.env)=eval o X.env:=by rfl) (hline:(apos.endLine==cpos.line)=true:=by rfl):PE X (.Call (.Attribute o name apos) [] [] cpos) (qsS X.K T r to):=by
 intro pins s σ H Q I h
 refine wpAny_Call_method0_late hbase hline (thn (ho pins s σ H _ I h) fun v s1 ⟨x,H1,I1,r1,ty,q1⟩=>?_)
 obtain ⟨h1,h2⟩:=qnZ I1 r1 ty
 exact ⟨T,id,pa,slot,hty,h1,h2,Calls.callWith_builtin rfl (PySem.evalArgs_none (hm pins s1 σ H1 x [] v [] Q I1 r1 .nil q1))⟩
theorem qb8 (pa:PlainAttrs T) (slot:Slot T name id) (hty:typeOf (.builtin id)=pure (.type "method_descriptor")) (hm:MtR X id r) (ho:PE X o to) (ha:PA X (e::es) t)
   (hbase:attributeBase o name X.env (eval o X.env)=eval o X.env:=by rfl)
   (hfew:((backTo cpos (starEach (e::es) X.env)).all (fun x=>!x.1)&&(backToKw cpos (keywordEach [] X.env)).all (fun x=>x.1.isSome)
     && decide ((e::es).length+([]:List Keyword).length+(if ([]:List Keyword).isEmpty then 0 else 1)<30))=true:=by rfl)
   (hline:(apos.endLine==cpos.line)=true:=by rfl) (hs:starEach (e::es) X.env=(false,eval e X.env)::starEach es X.env:=by rfl) (hplain:(backTo cpos (starEach es X.env)).any (·.1)=false:=by rfl) :
   PE X (.Call (.Attribute o name apos) (e::es) [] cpos) (tBM X.K T r to t):=by
 intro pins s σ H Q I h
 refine wpAny_Call_method_late hbase hfew hline rfl (thn (ho pins s σ H _ I h) fun v s1 ⟨x,H1,I1,r1,ty,q1⟩=>?_)
 obtain ⟨h1,h2⟩:=qnZ I1 r1 ty
 refine ⟨T,id,pa,slot,hty,h1,h2,?_⟩
 have hA:=ha cpos pins s1 σ H1 _ I1 q1
 rw [hs] at hA ⊢
 refine Calls.callWith_builtin (by show (false||(backTo cpos (starEach es X.env)).any (·.1))=false;rw [hplain]<;>rfl) (Calls.evalArgs_plain ?_)
 exact thn hA fun us s2 ⟨vs,H2,I2,r2,q2⟩=>hm pins s2 σ H2 x vs v us Q I2 r1 r2 q2
end
end L2
namespace L2
open PySem PySem.Spec PyProof.Rows
def MtM (X:Cx) (id:String) (r:V→List V→Hp→VK→Prop):Prop :=
 ∀(pins:List (Addr×Obj)) (s:Shared) (σ:St) (H:Hp) (x:V) (xs:List V) (v:Value) (us:List Value) (Q:VK),Inv X pins σ H s→qbm x v→qbc xs us→r x xs H Q →
   wpAny (model X.prog X.w) X.A (call (.builtin id) (v::us)) (EP X pins σ Q) X.xe s
theorem qbc.one:∀{x:V} {us:List Value},qbc [x] us→∃u,us=[u]∧qbm x u
 | _,_,.cons r .nil=>⟨_,rfl,r⟩
section
variable {X:Cx} {pins:List (Addr×Obj)} {σ:St} {H:Hp} {s:Shared} {l b:Addr} {xs ys zs:List V}
theorem Inv.lset {its its':List Value} {n:Nat} {f:Array Value→Array Value} {t':Nat} (I:Inv X pins σ H s) (hH:H l=some (.lst xs))
   (e:s.heap.get? l=some { cls := .type "list",data := .seq its.toArray n }) (hf:f its.toArray=its'.toArray) (hv:qbc ys its') (hz:ys.length≤sizeLine) :
   Inv X pins σ (upd H l (.lst ys)) { s with heap:=s.heap.update l (Obj.mapSeq f),toks:=t' }:=by
 have q:=PySem.IsL.update e f
 rw [hf] at q
 refine I.write (x:=l) (e:=l) (by rw [hH];exact trivial) (.inl rfl) (fun b' u hb hu=>(Heap.get?_update_other s.heap (Obj.mapSeq f) (Ne.symm hb)).trans hu) ⟨_,q⟩ ?_
 exact ⟨hz,its',_,hv,q⟩
theorem Inv.lnew {its:List Value} {t':Nat} (I:Inv X pins σ H s) (hv:qbc ys its) (hz:ys.length≤sizeLine) :
   Inv X pins σ (upd H s.heap.objs.size (.lst ys)) { s with heap:=s.heap.push { cls := .type "list",data := .seq its.toArray },toks:=t' } :=
 I.laid (fun _ _ q=>Heap.get?_push_of_some _ q) (Nat.le_refl _) ⟨hz,its,0,hv,Heap.get?_push_size _ rfl⟩
theorem Inv.fresh (I:Inv X pins σ H s):H s.heap.objs.size=none:=I.hok.fresh (Nat.le_refl _)
theorem Inv.lstM (I:Inv X pins σ H s) (hH:H l=some (.lst xs)):xs.length≤sizeLine∧∃(its:List Value) (n:Nat),qbc xs its∧xs.length=its.length∧s.heap.get? l=some { cls := .type "list",data := .seq its.toArray n }:=by
 obtain ⟨z,its,n,r,e⟩:=I.hok l _ hH
 exact ⟨z,its,n,r,r.length,e⟩
theorem qnj {n:Nat} (h:n≤sizeLine):Builtin.List.listTooLong n=false:=by
 unfold Builtin.List.listTooLong
 exact decide_eq_false (by omega)
end
section
variable {X:Cx}
def qme:V→List V→Hp→VK→Prop:=fun x vs H Q=>∃l xs y,x = .ref l∧vs=[y]∧H l=some (.lst xs)∧xs.length<sizeLine∧Q .non (upd H l (.lst (xs++[y])))
theorem qcH:MtM X "list.append" qme:=by
 intro pins s σ H x vs v us Q I rx rv h
 obtain ⟨l,xs,y,rfl,rfl,hH,hz,q⟩:=h
 cases rx
 obtain ⟨u,rfl,ru⟩:=rv.one
 obtain ⟨z,its,n,r,hl,e⟩:=I.lstM hH
 refine call_meets F.slot_list_append ⟨_,e,rfl⟩ F.entry_list_append (F.args_list_append_2 _ _) (PySem.list_append l its.toArray n u (by rw [List.size_toArray];omega)) ⟨e,?_⟩
 refine ⟨.non,_,I.lset (its':=its++[u]) hH e (by simp) (r.append (.cons ru .nil)) ?_,rfl,q⟩
 rw [List.length_append,List.length_singleton]
 omega
def qpQ:V→List V→Hp→VK→Prop:=fun x vs H Q=>∃l b xs zs,x = .ref l∧vs=[.ref b]∧H l=some (.lst xs)∧H b=some (.lst zs)∧xs.length+zs.length≤sizeLine∧Q .non (upd H l (.lst (xs++zs)))
theorem qmt:MtM X "list.extend" qpQ:=by
 intro pins s σ H x vs v us Q I rx rv h
 obtain ⟨l,b,xs,zs,rfl,rfl,hH,hB,hz,q⟩:=h
 cases rx
 obtain ⟨u,rfl,ru⟩:=rv.one
 cases ru
 obtain ⟨z,its,n,r,hl,e⟩:=I.lstM hH
 obtain ⟨z2,its2,n2,r2,hl2,e2⟩:=I.lstM hB
 have hsz:its.toArray.size+its2.toArray.size≤sizeLine:=by rw [List.size_toArray,List.size_toArray];omega
 have hlong:¬(!its.toArray.isEmpty&&Builtin.List.listTooLong (its.toArray.size+its2.toArray.size))=true:=by
   rw [qnj hsz,Bool.and_false]
   exact Bool.false_ne_true
 refine call_meets F.slot_list_extend ⟨_,e,rfl⟩ F.entry_list_extend (F.args_list_extend_2 _ _)
   (AutoSeq1.list_extend_list_list_0 l its.toArray n b its2.toArray n2 hlong (by rw [List.size_toArray];omega) (by omega)) ⟨e,e2,?_⟩
 refine ⟨.non,_,I.lset (its':=its++its2) hH e (by simp) (r.append r2) ?_,rfl,q⟩
 rw [List.length_append]
 omega
end
section
variable {prog:Program} {w:World} {A:Around} {E:Value→Shared→Prop} {s:Shared}
set_option maxRecDepth 100000 in
end
section
variable {X:Cx}
end
end L2
namespace L2
open PySem PySem.Spec PyProof.Rows
section
variable {κ:Type} [DecidableEq κ]
def qc5 (kvs:List (κ×V)) (k:κ):Option V:=(kvs.find? fun kv=>decide (kv.1=k)).map (·.2)
def qid (kvs:List (κ×V)) (k:κ) (v:V):List (κ×V) :=
 if (kvs.any fun kv=>decide (kv.1=k))=true then kvs.map (fun kv=>if kv.1=k then (kv.1,v) else kv) else kvs++[(k,v)]
theorem qbE {p:κ×V} {r:List (κ×V)} {k:κ} (e:p.1=k):qc5 (p::r) k=some p.2:=by simp [qc5,List.find?_cons,e]
theorem qbF {p:κ×V} {r:List (κ×V)} {k:κ} (e:¬p.1=k):qc5 (p::r) k=qc5 r k:=by simp [qc5,List.find?_cons,e]
theorem qdy (k:κ):∀kvs:List (κ×V),(kvs.any fun kv=>decide (kv.1=k))=(qc5 kvs k).isSome
 | []=>rfl
 | p::r=>by
   rw [List.any_cons]
   by_cases e:p.1=k
   · simp only [qbE e,decide_eq_true e,Bool.true_or,Option.isSome_some]
   · rw [qbF e,decide_eq_false e,Bool.false_or];exact qdy k r
theorem qi9 (k j:κ) (y:V):∀kvs:List (κ×V),qc5 (kvs.map fun kv=>if kv.1=k then (kv.1,y) else kv) j=(qc5 kvs j).map fun x=>if j=k then y else x
 | []=>rfl
 | p::r=>by
   have ih:=qi9 k j y r
   rw [List.map_cons]
   by_cases h:p.1=k
   · rw [if_pos h]
     by_cases e:p.1=j
     · rw [qbE (p:=(p.1,y)) e,qbE e,Option.map_some,if_pos (e.symm.trans h)]
     · rw [qbF (p:=(p.1,y)) e,qbF e,ih]
   · rw [if_neg h]
     by_cases e:p.1=j
     · rw [qbE (p:=p) e,qbE e,Option.map_some,if_neg (fun z=>h (e.trans z))]
     · rw [qbF (p:=p) e,qbF e,ih]
theorem qib (k j:κ) (y:V):∀kvs:List (κ×V),qc5 kvs k=none→qc5 (kvs++[(k,y)]) j=if j=k then some y else qc5 kvs j
 | [],_=>by
   by_cases e:k=j
   · rw [if_pos e.symm];exact qbE (p:=(k,y)) e
   · rw [if_neg (fun z=>e z.symm)];exact qbF (p:=(k,y)) e
 | p::r,hn=>by
   rw [List.cons_append]
   have hk:¬p.1=k:=fun z=>by rw [qbE z] at hn;cases hn
   rw [qbF hk] at hn
   have ih:=qib k j y r hn
   by_cases e:p.1=j
   · rw [qbE e,qbE e,if_neg (fun z=>hk (e.trans z))]
   · rw [qbF e,qbF e,ih]
theorem qm5 (kvs:List (κ×V)) (k j:κ) (y:V):qc5 (qid kvs k y) j=if j=k then some y else qc5 kvs j:=by
 unfold qid
 by_cases a:(kvs.any fun kv=>decide (kv.1=k))=true
 · rw [if_pos a,qi9]
   rw [qdy] at a
   by_cases e:j=k
   · obtain ⟨x,hx⟩:=Option.isSome_iff_exists.mp a
     rw [if_pos e,e,hx,Option.map_some,if_pos rfl]
   · rw [if_neg e]
     cases qc5 kvs j with
     | none=>rfl
     | some x=>rw [Option.map_some,if_neg e]
 · rw [if_neg a]
   refine qib k j y kvs ?_
   rw [qdy] at a
   cases q:qc5 kvs k with
   | none=>rfl
   | some x=>rw [q] at a;exact (a rfl).elim
theorem qeR (kvs:List (κ×V)) (k:κ) (v:V):(qid kvs k v).length≤kvs.length+1:=by
 unfold qid
 split
 · rw [List.length_map];omega
 · rw [List.length_append,List.length_cons,List.length_nil];omega
theorem qhR.isSome_eq {o:Option V} {u:Option Value} (r:qhR o u):o.isSome=u.isSome:=by
 cases o with
 | none=>cases u with
   | none=>rfl
   | some _=>exact (show False from r).elim
 | some _=>cases u with
   | none=>exact (show False from r).elim
   | some _=>rfl
theorem KV.val {kvs:List (κ×V)} {vs:List (κ×Value)} (r:KV kvs vs) (k:κ):qhR (qc5 kvs k) (valueAt vs k):=by
 unfold KV at r
 induction r with
 | nil=>exact True.intro
 | @cons p q ps qs h t ih =>
   obtain ⟨h1,h2⟩:=h
   by_cases e:p.1=k
   · have e':q.1=k:=h1.symm.trans e
     have b:valueAt (q::qs) k=some q.2:=by simp [valueAt,List.find?_cons,e']
     rw [qbE e,b];exact h2
   · have e':¬q.1=k:=fun z=>e (h1.trans z)
     have b:valueAt (q::qs) k=valueAt qs k:=by simp [valueAt,List.find?_cons,e']
     rw [qbF e,b];exact ih
theorem KV.any {kvs:List (κ×V)} {vs:List (κ×Value)} (r:KV kvs vs) (k:κ):(kvs.any fun kv=>decide (kv.1=k))=vs.any fun kv=>decide (kv.1=k):=by
 unfold KV at r
 induction r with
 | nil=>rfl
 | cons h t ih=>rw [List.any_cons,List.any_cons,ih,h.1]
theorem KV.repl {kvs:List (κ×V)} {vs:List (κ×Value)} (r:KV kvs vs) (k:κ) {y:V} {u:Value} (ry:qbm y u) :
   KV (kvs.map fun kv=>if kv.1=k then (kv.1,y) else kv) (vs.map fun kv=>if kv.1=k then (kv.1,u) else kv):=by
 unfold KV at r ⊢
 induction r with
 | nil=>exact .nil
 | @cons p q ps qs h t ih =>
   rw [List.map_cons,List.map_cons]
   refine .cons ?_ ih
   obtain ⟨h1,h2⟩:=h
   by_cases e:p.1=k
   · rw [if_pos e,if_pos (h1.symm.trans e)];exact ⟨h1,ry⟩
   · rw [if_neg e,if_neg (fun z=>e (h1.trans z))];exact ⟨h1,h2⟩
theorem KV.put {kvs:List (κ×V)} {vs:List (κ×Value)} (r:KV kvs vs) (k:κ) {y:V} {u:Value} (ry:qbm y u):KV (qid kvs k y) (stored vs k u):=by
 unfold qid stored
 rw [r.any k]
 by_cases e:(vs.any fun kv=>decide (kv.1=k))=true
 · rw [if_pos e,if_pos e];exact r.repl k ry
 · rw [if_neg e,if_neg e];exact Paired.snoc r ⟨rfl,ry⟩
theorem KV.length {kvs:List (κ×V)} {vs:List (κ×Value)} (r:KV kvs vs):kvs.length=vs.length:=Paired.length r
end
theorem qjR {P:Program} {w:World} {k:Key} {u:Value} (r:qbm (kV k) u):(qa9 P w).is k u=true:=by
 cases k with
 | inl i=>obtain ⟨t,e⟩:=(show ∃t,u=Value.int i t from r);subst e;exact qiT P w i t
 | inr x=>obtain ⟨t,e⟩:=(show ∃t,u=Value.str x t from r);subst e;exact qin P w x t
theorem qh4 {P:Program} {w:World}:∀{ks:List Key} {us:List Value},qbc (ks.map kV) us→ItemsAre (qa9 P w) ks us
 | [],_,r=>by rw [List.map_nil] at r;cases r;exact .nil
 | k::ks,_,r=>by
   rw [List.map_cons] at r
   cases r with
   | cons h t=>exact .cons (qjR h) (qh4 t)
abbrev KT (H:Hp):List (List Key×V)→List (List Key×Addr×Value)→Prop:=Paired fun p q=>p.1=q.1∧H q.2.1=some (.tup (p.1.map kV))∧qbm p.2 q.2.2
theorem KT.val {H:Hp} {kvs:List (List Key×V)} {xs:List (List Key×Addr×Value)} (r:KT H kvs xs) (k:List Key):qhR (qc5 kvs k) ((atKey xs k).map (·.2)):=by
 induction r with
 | nil=>exact True.intro
 | @cons p q ps qs h t ih =>
   obtain ⟨h1,_,h2⟩:=h
   by_cases e:p.1=k
   · have e':q.1=k:=h1.symm.trans e
     have b:atKey (q::qs) k=some q.2:=by simp [atKey,List.find?_cons,e']
     rw [qbE e,b];exact h2
   · have e':¬q.1=k:=fun z=>e (h1.trans z)
     have b:atKey (q::qs) k=atKey qs k:=by simp [atKey,List.find?_cons,e']
     rw [qbF e,b];exact ih
theorem KT.repl {H:Hp} {kvs:List (List Key×V)} {xs:List (List Key×Addr×Value)} (r:KT H kvs xs) (k:List Key) {y:V} {u:Value} (ry:qbm y u) :
   KT H (kvs.map fun kv=>if kv.1=k then (kv.1,y) else kv) (xs.map (putAt k u)):=by
 induction r with
 | nil=>exact .nil
 | @cons p q ps qs h t ih =>
   rw [List.map_cons,List.map_cons]
   refine .cons ?_ ih
   obtain ⟨h1,h2,h3⟩:=h
   unfold putAt
   by_cases e:p.1=k
   · rw [if_pos e,if_pos (h1.symm.trans e)];exact ⟨h1,h2,ry⟩
   · rw [if_neg e,if_neg (fun z=>e (h1.trans z))];exact ⟨h1,h2,h3⟩
theorem KT.put {H:Hp} {kvs:List (List Key×V)} {xs:List (List Key×Addr×Value)} (r:KT H kvs xs) (k:List Key) {b:Addr} {y:V} {u:Value} (hb:H b=some (.tup (k.map kV))) (ry:qbm y u) :
   KT H (qid kvs k y) (storedH xs k b u):=by
 have e:(kvs.any fun kv=>decide (kv.1=k))=(atKey xs k).isSome:=by
   rw [qdy,(r.val k).isSome_eq,Option.isSome_map]
 unfold qid storedH
 rw [e]
 by_cases q:(atKey xs k).isSome=true
 · rw [if_pos q,if_pos q];exact r.repl k ry
 · rw [if_neg q,if_neg q];exact Paired.snoc r ⟨rfl,hb,ry⟩
theorem KT.keeps {H H':Hp} {kvs:List (List Key×V)} {xs:List (List Key×Addr×Value)} (r:KT H kvs xs) (ht:∀b ys,H b=some (.tup ys)→H' b=some (.tup ys)):KT H' kvs xs :=
 Paired.mapP r fun _ _ z=>⟨z.1,ht _ _ z.2.1,z.2.2⟩
section
variable {P:Program} {w:World} {H:Hp} {h:Heap} {a:Addr}
theorem qrv {u:HO} (ok:HOk P w H h) (e:Rd H a u):qbN P w H h a u:=e.ok ok
theorem qmN {kvs:List (Key×V)} (ok:HOk P w H h) (e:Rd H a (.dK kvs)):kvs.length≤sizeLine∧(a==sysModules)=false∧∃vs,KV kvs vs∧h.DictOf (qa9 P w) a vs :=
 show qbN P w H h a (.dK kvs) from qrv ok e
theorem qsA {kvs:List (Key×V)} (ok:HOk P w H h) (e:H a=some (.dK kvs)):kvs.length≤sizeLine∧(a==sysModules)=false∧∃vs,KV kvs vs∧h.DictOf (qa9 P w) a vs:=qmN ok (.inl e)
theorem qja {ks:List Key} (ok:HOk P w H h) (e:H a=some (.tup (ks.map kV))):(tupleKind (qa9 P w)).is h ks a:=by
 obtain ⟨_,its,r,o,h1,h2,n,h3⟩:=(show qbN P w H h a (.tup (ks.map kV)) from ok a _ e)
 exact ⟨o,its.toArray,n,h1,h2,h3,by simpa using qh4 r⟩
theorem qmD {kvs:List (List Key×V)} (ok:HOk P w H h) (e:Rd H a (.dT kvs)):kvs.length≤sizeLine∧(a==sysModules)=false ∧
   ∃xs,KT H kvs xs∧h.DictOfH (tupleKind (qa9 P w)) a xs:=by
 obtain ⟨z,y,xs,r,o,es,ep,h1,h2,h3,h4,h5⟩:=(show qbN P w H h a (.dT kvs) from qrv ok e)
 refine ⟨z,y,xs,r,o,es,ep,h1,h2,h3,h4,fun x hx=>?_,h5⟩
 have all:∀{l:List (List Key×V)} {m:List (List Key×Addr×Value)},KT H l m→∀x∈m,(tupleKind (qa9 P w)).is h x.1 x.2.1:=by
   intro l m q
   induction q with
   | nil=>intro x hx;exact nomatch hx
   | @cons p q ps qs hq t ih =>
     intro x hx
     rcases List.mem_cons.mp hx with e | hx
     · subst e
       exact qja ok (by rw [←hq.1];exact hq.2.1)
     · exact ih x hx
 exact all r x hx
theorem qsp {kvs:List (List Key×V)} (ok:HOk P w H h) (e:H a=some (.dT kvs)):kvs.length≤sizeLine∧(a==sysModules)=false ∧
 ∃xs,KT H kvs xs∧h.DictOfH (tupleKind (qa9 P w)) a xs:=qmD ok (.inl e)
end
def qlu (H:Hp) (a:Addr) (y:V) (r:Option V):Prop :=
 (∃kvs k,Rd H a (.dK kvs)∧y=kV k∧r=qc5 kvs k)∨∃kvs k b,Rd H a (.dT kvs)∧y = .ref b∧H b=some (.tup (k.map kV))∧r=qc5 kvs k
def qqd (H:Hp) (a:Addr) (y v:V) (H':Hp):Prop :=
 (∃kvs k,H a=some (.dK kvs)∧y=kV k∧kvs.length<sizeLine∧H'=upd H a (.dK (qid kvs k v))) ∨
 ∃kvs k b,H a=some (.dT kvs)∧y = .ref b∧H b=some (.tup (k.map kV))∧kvs.length<sizeLine∧H'=upd H a (.dT (qid kvs k v))
theorem qlu.k {H:Hp} {a:Addr} {kvs:List (Key×V)} {k:Key} (e:H a=some (.dK kvs)):qlu H a (kV k) (qc5 kvs k) := .inl ⟨kvs,k,.inl e,rfl,rfl⟩
theorem qqd.k {H:Hp} {a:Addr} {kvs:List (Key×V)} {k:Key} {v:V} (e:H a=some (.dK kvs)) (hl:kvs.length<sizeLine):qqd H a (kV k) v (upd H a (.dK (qid kvs k v))) := .inl ⟨kvs,k,e,rfl,hl,rfl⟩
section
variable {X:Cx} {pins:List (Addr×Obj)} {σ:St} {H:Hp} {s:Shared} {a:Addr} {y v:V} {u r:Value} {o:Option V} {A:Around} {E:Value→Shared→Prop}
theorem Inv.big (I:Inv X pins σ H s):sysModules<s.heap.objs.size:=by
 have h:mainGlobals<s.heap.objs.size:=(I.mod.glob.keeps I.bk).lt
 exact Nat.lt_trans (by decide) h
theorem qkG {Q:Value→Shared→Prop} (hu:A.units+1<cLine) (I:Inv X pins σ H s) (g:qlu H a y (some v)) (ry:qbm y u) (h:∀w' s',Inv X pins σ H s'→qbm v w'→Q w' s') :
   wpAny (model X.prog X.w) A (getItem (.ref a) u) Q E s:=by
 rcases g with ⟨kvs,k,e,ey,l⟩ | ⟨kvs,k,b,e,ey,eb,l⟩
 · subst ey
   obtain ⟨z,hd,vs,rel,dd⟩:=qmN I.hok e
   obtain ⟨w',hw,rw'⟩:=qhR.some_of (v:=v) (o:=valueAt vs k) (by rw [l];exact rel.val k)
   exact wpAny_getItem_of (qjR ry) dd.mapOf hw (h w' _ (I.tok _) rw')
 · subst ey
   cases (show u=Value.ref b from ry)
   obtain ⟨z,hd,xs,rel,dd⟩:=qmD I.hok e
   obtain ⟨w',hw,rw'⟩:=qhR.some_of (v:=v) (o:=(atKey xs k).map (·.2)) (by rw [l];exact rel.val k)
   obtain ⟨p,hp,hp2⟩:=Option.map_eq_some_iff.mp hw
   refine wpAny_getItem_heap (tupleKind_room_in1 hu) (qja I.hok eb) dd hp ?_
   rw [hp2]
   exact h w' _ (I.tok _) rw'
theorem qqc {Q:Value→Shared→Prop} (hu:A.units+1<cLine) (I:Inv X pins σ H s) (g:qlu H a y o) (ry:qbm y u) (h:∀s',Inv X pins σ H s'→Q (.bool (!o.isSome)) s') :
   wpAny (model X.prog X.w) A (compareOp .NotIn u (.ref a)) Q E s:=by
 rcases g with ⟨kvs,k,e,ey,l⟩ | ⟨kvs,k,b,e,ey,eb,l⟩
 · subst ey
   obtain ⟨z,hd,vs,rel,dd⟩:=qmN I.hok e
   refine wpAny_notIn_of (qjR ry) hd dd.mapOf ?_
   rw [←(rel.val k).isSome_eq,←l]
   exact h _ (I.tok _)
 · subst ey
   cases (show u=Value.ref b from ry)
   obtain ⟨z,hd,xs,rel,dd⟩:=qmD I.hok e
   refine wpAny_notIn_heap (tupleKind_room_in1 hu) (qja I.hok eb) hd dd ?_
   have q:=(rel.val k).isSome_eq
   rw [Option.isSome_map] at q
   rw [←q,←l]
   exact h _ (I.tok _)
theorem qlB {h':Heap} {t':Nat} {ob:HO} (I:Inv X pins σ H s) (mu:Mut (H a)) (hs:Heap.SameBut a s.heap h') (he:∃q,h'.get? a=some q) (new:qbN X.prog X.w (upd H a ob) h' a ob) :
   Inv X pins σ (upd H a ob) { s with heap:=h',toks:=t' } :=
 I.write (x:=a) (e:=a) mu (.inl rfl) (fun b q hb z=>(hs.2 b hb).trans z) he new
theorem qrE {P:Program} {w:World} {H':Hp} {h':Heap} {kvs:List (Key×V)} {vs:List (Key×Value)} (z:kvs.length≤sizeLine) (hd:(a==sysModules)=false) (rel:KV kvs vs) (dd:h'.DictOf (qa9 P w) a vs) :
 qbN P w H' h' a (.dK kvs):=⟨z,hd,vs,rel,dd⟩
theorem qlH {H':Hp} {Q:Unit→Shared→Prop} (hu:A.units+1<cLine) (I:Inv X pins σ H s) (g:qqd H a y v H') (ry:qbm y u) (rv:qbm v r) (h:∀s',Inv X pins σ H' s'→Q () s') :
   wpAny (model X.prog X.w) A (setItem (.ref a) u r) Q E s:=by
 rcases g with ⟨kvs,k,e,ey,l,eH⟩ | ⟨kvs,k,b,e,ey,eb,l,eH⟩
 · subst ey eH
   obtain ⟨z,hd,vs,rel,dd⟩:=qsA I.hok e
   have hz:vs.length≤sizeLine:=by rw [←rel.length];exact z
   have hl:(qid kvs k v).length≤sizeLine:=by have:=qeR kvs k v;omega
   refine wpAny_setItem_pairs (hsz:=hz) (qjR ry) dd fun h' dd' hs=>h _ ?_
   have he:∃q,h'.get? a=some q:=let ⟨q,_,_,hq,_⟩:=dd';⟨q,hq⟩
   exact qlB I (by rw [e];exact True.intro) hs he (qrE hl hd (rel.put k rv) dd')
 · subst ey eH
   cases (show u=Value.ref b from ry)
   obtain ⟨z,hd,xs,rel,dd⟩:=qsp I.hok e
   have hz:xs.length≤sizeLine:=by rw [←Paired.length rel];exact z
   have hl:(qid kvs k v).length≤sizeLine:=by have:=qeR kvs k v;omega
   refine wpAny_setItem_heap (hsz:=hz) (tupleKind_room_in1 hu) (qja I.hok eb) dd fun h' dd' hs=>h _ ?_
   obtain ⟨q,es,ep,hq,h2,h3,h4,_,h5⟩:=dd'
   refine qlB I (by rw [e];exact True.intro) hs ⟨q,hq⟩ ⟨hl,hd,_,(rel.put k eb rv).keeps fun c ys ec=>?_,q,es,ep,hq,h2,h3,h4,h5⟩
   rw [qax (qsy ec e (fun z=>nomatch z))]
   exact ec
end
section
variable {X:Cx} {pins:List (Addr×Obj)} {σ:St} {H:Hp} {s:Shared} {a:Addr} {kvs:List (Key×V)} {k:Key} {u:Value} {A:Around} {E:Value→Shared→Prop}
end
def qr9 (i:Expr):Prop:=∀ov iv,subscripted i false ov iv=operate [ov,iv] (getItem ov iv)
theorem qlf {prog:Program} {w:World} {A:Around} {E:Value→Shared→Prop} {s:Shared} {env:Env} {value slice:Expr} {pos:Pos} {T id:String} {Q:Value→Shared→Prop}
   (hl:typeLookup (.type T) "__getitem__" = pure (some (.builtin id))) (hs:qr9 slice)
   (h:wpAny (model prog w) A (eval value env) (fun o s₁=>wpAny (model prog w) A (eval slice env) (fun i s₂=>s₂.TypeIs o T∧wpAny (model prog w) A (getItem o i) Q E s₂) E s₁) E s) :
   wpAny (model prog w) A (eval (.Subscript value slice pos) env) Q E s:=by
 refine Subscript_ (wpAny_mono h (fun o s₁ h₁=>wpAny_mono h₁ (fun i s₂ h₂=>?_) fun _ _ x=>x) fun _ _ x=>x)
 obtain ⟨hT,h₂⟩:=h₂
 unfold subscriptTail
 refine wpAny_bind ?_
 rw [getitemInPython_of_ne hT.not_modules]
 refine wpAny_bind (wpAny_specialOf hT hl ?_)
 have fin:wpAny (model prog w) A (subscripted slice false o i) (fun r s₃=>wpAny (model prog w) A (letTemporaryGo value o r >>= fun _=>pure r) Q E s₃) E s₂:=by
   rw [hs o i]
   exact wpAny_operating (wpAny_mono h₂ (fun r s₃ h₃=>wpAny_bind (wpAny_letTemporaryGo (wpAny_pure h₃))) fun _ _ x=>x)
 first
   | exact wpAny_pure (wpAny_bind fin)
   | exact wpAny_bind (wpAny_pure (wpAny_bind fin))
   | exact wpAny_bind fin
theorem qif {X:Cx} {pins:List (Addr×Obj)} {σ:St} {H:Hp} {s:Shared} {a:Addr} {y:V} {o:Option V} (I:Inv X pins σ H s) (g:qlu H a y o):s.TypeIs (.ref a) "dict" := by
 rcases g with ⟨kvs,k,e,_,_⟩ | ⟨kvs,k,b,e,_,_,_⟩
 · obtain ⟨_,_,vs,_,dd⟩:=qmN I.hok e
   exact dd.typeIs
 · obtain ⟨_,_,xs,_,dd⟩:=qmD I.hok e
   exact dd.typeIs
def qri (td ty:TE):TE:=fun σ H Q=>td σ H fun x H1=>ty σ H1 fun y H2=>∃a v,x = .ref a∧qlu H2 a y (some v)∧Q v H2
def qs7 (ty td:TE):TE:=fun σ H Q=>ty σ H fun y H1=>td σ H1 fun x H2=>∃a o,x = .ref a∧qlu H2 a y o∧Q (.bl o.isSome) H2
def qlm (ty td:TE):TE:=fun σ H Q=>ty σ H fun y H1=>td σ H1 fun x H2=>∃a o,x = .ref a∧qlu H2 a y o∧Q (.bl (!o.isSome)) H2
def qpz (td ty tv:TE):TS:=fun D σ H=>tv σ H fun v H1=>td σ H1 fun x H2=>ty σ H2 fun y H3=>∃a H4,x = .ref a∧qqd H3 a y v H4∧D.nx σ H4
section
variable {X:Cx} {o i e value:Expr} {pos pos' tpos:Pos} {td ty tv:TE}
theorem qoM (hu:X.A.units+1<cLine) (ho:PE X o td) (hi:PE X i ty) (hs:qr9 i):PE X (.Subscript o i pos) (qri td ty):=by
 intro pins s σ H Q I h
 refine qlf PySem.F.slot_dict_getitem.lookup hs (thn (ho pins s σ H _ I h) fun u s1 ⟨x,H1,I1,rx,q1⟩=>thn (hi pins s1 σ H1 _ I1 q1) fun iv s2 ⟨y,H2,I2,ry,a,v,ex,g,q2⟩=>?_)
 subst ex
 obtain rfl:u=Value.ref a:=rx
 exact ⟨qif I2 g,qkG hu I2 g ry fun w' s3 I3 rw'=>⟨v,H2,I3,rw',q2⟩⟩
theorem qhz (hu:X.A.units+1<cLine) (hi:PE X i ty) (ho:PE X o td):PC X .NotIn i o (qlm ty td):=by
 intro pins s σ H Q I h
 refine thn (hi pins s σ H _ I h) fun iv s1 ⟨y,H1,I1,ry,q1⟩=>thn (ho pins s1 σ H1 _ I1 q1) fun u s2 ⟨x,H2,I2,rx,a,ov,ex,g,q2⟩=>?_
 subst ex
 obtain rfl:u=Value.ref a:=rx
 exact qqc hu I2 g ry fun s3 I3=>⟨.bl (!ov.isSome),H2,I3,rfl,q2⟩
theorem qo7 (hu:X.A.units+1<cLine) (ho:PE X o td) (hi:PE X i ty) (hv:PE X value tv) (hs:swapsWith value (some (.Subscript o i pos')) pos.line X.env=pure false) :
   PS X (.Assign [.Subscript o i pos'] value pos) (qpz td ty tv):=by
 intro pins s σ H D I h
 refine wpAny_Assign_Subscript (thn (hv pins s σ H _ I h) fun r s1 ⟨v,H1,I1,rv,q1⟩=>thn (ho pins s1 σ H1 _ I1 q1) fun u s2 ⟨x,H2,I2,rx,q2⟩=>thn (hi pins s2 σ H2 _ I2 q2) fun iv s3 ⟨y,H3,I3,ry,a,H4,ex,g,q3⟩=>?_) hs
 subst ex
 obtain rfl:u=Value.ref a:=rx
 exact qlH hu I3 g ry rv fun s4 I4=>⟨σ,H4,I4,q3⟩
end
theorem qmE {P:Program} {w:World} {H:Hp} (h:Heap) (hb:sysModules<h.objs.size):qbN P w H (h.push { cls := .type "dict",data := .dict #[] }) h.objs.size (.dK []) :=
 ⟨Nat.zero_le _,beq_eq_false_iff_ne.mpr (Ne.symm (Nat.ne_of_lt hb)),[],.nil,Heap.DictOf.new h⟩
def qnV:TE:=fun _ H Q=>∀p,H p=none→Q (.ref p) (upd H p (.dK []))
section
variable {X:Cx} {pos:Pos}
theorem qmF:PE X (.Dict [] [] pos) qnV:=fun pins s σ H Q I h =>
 wpAny_Dict_empty ⟨.ref s.heap.objs.size,_,I.laid (a:=s.heap.objs.size) (o := .dK []) (t':=s.toks) (fun _ _ q=>Heap.get?_push_of_some _ q) (Nat.le_refl _) (qmE s.heap I.big),rfl,h _ (I.hok.fresh (Nat.le_refl _))⟩
end
structure M1 (X:Cx) (o:Expr) (m:Str) (apos:Pos) (e:Expr) (cpos:Pos):Prop where
 base:attributeBase o m X.env (eval o X.env)=eval o X.env
 few:((backTo cpos (starEach [e] X.env)).all (fun x=>!x.1)&&(backToKw cpos (keywordEach [] X.env)).all (fun x=>x.1.isSome)
   && decide (([e]:List Expr).length+([]:List Keyword).length+(if ([]:List Keyword).isEmpty then 0 else 1)<30))=true
 line:(apos.endLine==cpos.line)=true
 trees:backTo cpos (starEach [e] X.env)=[(false,eval e X.env)]
structure M2 (X:Cx) (o:Expr) (m:Str) (apos:Pos) (e f:Expr) (cpos:Pos):Prop where
 base:attributeBase o m X.env (eval o X.env)=eval o X.env
 few:((backTo cpos (starEach [e,f] X.env)).all (fun x=>!x.1)&&(backToKw cpos (keywordEach [] X.env)).all (fun x=>x.1.isSome)
   && decide (([e,f]:List Expr).length+([]:List Keyword).length+(if ([]:List Keyword).isEmpty then 0 else 1)<30))=true
 line:(apos.endLine==cpos.line)=true
 trees:backTo cpos (starEach [e,f] X.env)=[(false,eval e X.env),(false,eval f X.env)]
section
variable {X:Cx} {pins:List (Addr×Obj)} {σ:St} {H:Hp} {s:Shared} {a:Addr} {y d:V} {u r:Value} {o:Option V} {A:Around} {E:Value→Shared→Prop}
end
section
variable {X:Cx} {o e f:Expr} {apos cpos:Pos} {td ty tx:TE}
end
section
variable {X:Cx} {pins:List (Addr×Obj)} {σ:St} {H:Hp} {s:Shared} {a:Addr} {kvs:List (Key×V)} {A:Around} {E:Value→Shared→Prop}
end
section
variable {X:Cx} {pins:List (Addr×Obj)} {σ:St} {H:Hp} {s:Shared} {a:Addr} {y:V} {u:Value} {A:Around} {E:Value→Shared→Prop}
end
end L2
namespace Att
open PySem PySem.W PySem.Calls PyProof.Rows
theorem qfH {P:Params} {h:Heap}:∀(ns:List Int) (vs:List Value),WellAll P h vs (ns.map WData.int)→IntsAre vs ns:=by
 intro ns
 induction ns with
 | nil =>
   intro vs w
   rw [List.map_nil] at w
   cases w
   exact .nil
 | cons n ns ih =>
   intro vs w
   rw [List.map_cons] at w
   cases w with
   | cons a b =>
     cases a
     exact .cons _ _ (ih _ b)
theorem qkE {l:OpenLaw} {n:Nat} (hn:l.most=some n) {P:Params} {h:Heap} {args:List WData} {vals:List Value}
   (hpre:l.row.toRowW.claim.pre args=true) (hwl:WellAll P h vals args) :
   ∃a vs ns,vals=[Value.ref a]∧args=[WData.list (ns.map WData.int)]∧h.get? a=some { cls := .type "list",data := .seq vs.toArray }∧IntsAre vs ns∧ns.length≤n:=by
 have hsh:WShape.hasAll [] args [.list .int]=true:=(pre_splitW hpre).1
 have hc:l.pre.holds [] { args:=args }=true:=(pre_splitW hpre).2
 obtain ⟨d,r,rfl,h1,h2⟩:=hasAllW_cons hsh
 obtain rfl:=hasAllW_nil h2
 obtain ⟨xs,rfl,h3⟩:=hasW_list h1
 obtain ⟨ns,rfl⟩:=items_int h3
 have hlen:ns.length≤n:=by
   unfold OpenLaw.pre at hc
   have h4:(WTm.not (.lt (.lit (.int (n:Int))) (.len (.arg 0)))).holds [] { args:=[.list (ns.map .int)] }=true:=by
     have h4:=(holds_andW hc).1
     rw [hn] at h4
     exact h4
   have h5:=condW_of h4 (w_not (w_lt w_lit (w_len_list (w_arg rfl))))
   rw [List.length_map] at h5
   refine Nat.le_of_not_lt fun q=>?_
   have q':(n:Int)<((ns.length:Nat):Int):=by omega
   first
     | (rw [decide_eq_true q'] at h5;exact absurd h5 (by decide))
     | (simp at h5;omega)
 cases hwl with
 | cons w1 w2 =>
   cases w2
   cases w1 with
   | list ho hall=>exact ⟨_,_,ns,rfl,rfl,ho,qfH ns _ hall,hlen⟩
theorem qmm (l:OpenLaw) (args:List WData):l.row.toRowW.claim.post args (.bool true) args=true :=
 postW_of (r:=l.row.toRowW) (X:=(true==true))
   (show WShape.has [] (.bool true) .bool=true by first | rfl | decide | simp [WShape.has,WShape.arms,WShape.armsAll])
   (show (WTm.eq .res (.lit (.bool true))).value [] { args:=args,res:=some (.bool true),after:=args }=some (.bool (true==true)) from w_eq_bool (w_res rfl) w_lit) rfl
theorem attach_call {l:OpenLaw} {n:Nat} {q:Program} {loose:List Str} {XP:(Str→Option Value)→Heap→Prop} {YP:World→Heap→Prop} {d:DefRec}
   (hn:l.most=some n) (hdf:d.params.defaults=[])
   (call:∀(w:World) (s₀ s₁:Shared) (mg mb:Str→Option Value) (fa:Addr) (o:Obj) (pm cd doc:Value) (a:Addr) (vs:List Value) (ns:List Int),
     Ground q loose [] XP w s₀ mg mb s₁.heap→YP w s₁.heap →
     s₁.heap.get? fa=some o→o.data = .func (docDef d.name d.params d.body d.scope pm cd doc)→s₁.heap.CodeRec cd d.name→mg d.name=some (.ref fa) →
     s₁.heap.get? a=some { cls := .type "list",data := .seq vs.toArray }→IntsAre vs ns→ns.length≤n→s₁.gens = #[] →
     codeAny (model l.prog w) callerA (.call (.ref fa) ⟨[.ref a],[]⟩) (fun r s'=>r = .ok (.ret (.bool true))∧OldK s₁.heap s'.heap∧s'.os=s₁.os∧AllBare s'.gens) s₁) :
   WalkO q loose XP YP l.row.toRowW d [] (fun f vs=>PySem.call f vs):=by
 intro w s₀ s₁ mg mb G Y fa o pm cd doc dV kV ho hd hcd hD hmg hg args vals as hpre hlay hrd hwl hlo
 obtain rfl:dV = .none:=Dflts.none hD hdf
 obtain rfl:kV = .none:=Dflts.noKw hD
 obtain ⟨a,vs,ns,rfl,rfl,hobj,hints,hlen⟩:=qkE hn hpre hwl
 refine enter_call (codeAny_mono (call w s₀ s₁ mg mb fa o pm cd doc a vs ns G Y ho (fd_plain hd) hcd hmg hobj hints hlen hg) fun r s' hq=>?_)
 obtain ⟨rfl,h2,h3,h4⟩:=hq
 exact ⟨.inl ⟨.bool true,.bool true,[],rfl,fun _=>rfl,.bool true,qmm l _,fun _=>⟨List.Pairwise.nil,fun _ hm=>(nomatch hm)⟩⟩,h2,h3,h4⟩
section
variable {prog:Program} {w:World} {A:Around} {E:Value→Shared→Prop} {s:Shared} {K:Frag}
end
end Att
namespace L2
open PySem PySem.Spec PyProof.Rows
theorem qdV:∀{vs:List Value} {ns:List Int},IntsAre vs ns→qbc (ns.map V.int) vs
 | _,_,.nil => .nil
 | _,_,.cons n t h => .cons ⟨t,rfl⟩ (qdV h)
def qr6 (H:Hp):Prop:=∀b,H b=none∨∃o xs,H b=some (.frz o (.lst xs))
theorem qnB {P:Program} {w:World} {K:PySem.W.Frag} {mg mb:Str→Option Value} {CX:CXT} {k:Nat} {fa a:Addr} {fd:FuncData} {x:Str} {sp:Sp} {s₁:Shared} {vs:List Value} {ns:List Int}
   (KX:K.In s₁.heap) (hns:s₁.heap.Ns mainGlobals mg) (hb:s₁.heap.Ns builtinsNs mb) (hbb:∀x:Str,x ≠ "__name__" → mb x=bootBuiltins x) (hlim:s₁.heap.NoLimit) (hg:s₁.gens = #[])
   (ha:s₁.heap.get? a=some { cls := .type "list",data := .seq vs.toArray }) (hi:IntsAre vs ns) (hl:ns.length≤sizeLine) (hr:qdK k callerA)
   (F:∀base:Heap,K.In base→base.Ns mainGlobals mg→qa1 P w K mg base CX k fa fd [x] sp) (hbind:∀(s:Shared) (u:Value),BindsTo s fd ⟨[u],[]⟩ [(x,u)])
   (hsp:∀H:Hp,qr6 H→SqL K H a (ns.map V.int)→sp [.ref a] H (fun v _=>v = .bl true) fun _ _ _=>False)
   (hCX:∀H e s',CX [] H s₁ (fun _ _ _=>False) e s'→False) :
   codeAny (model P w) callerA (.call (.ref fa) ⟨[.ref a],[]⟩) (fun r s'=>r = .ok (.ret (.bool true))∧OldK s₁.heap s'.heap∧s'.os=s₁.os∧AllBare s'.gens) s₁:=by
 have rv:=qdV hi
 have lenV:=hi.length
 -- from an abstract heap in which nothing but the script may be tracked
 have core:∀H:Hp,qr6 H→SqL K H a (ns.map V.int)→HOk P w H s₁.heap→(∀b,H b≠none→b=a)→(H a≠none→K.lookup a=none) →
     codeAny (model P w) callerA (.call (.ref fa) ⟨[.ref a],[]⟩) (fun r s'=>r = .ok (.ret (.bool true))∧OldK s₁.heap s'.heap∧s'.os=s₁.os∧AllBare s'.gens) s₁:=by
   intro H hO hS hok hA hK
   have base_of:∀{b:Addr} {o:Obj},s₁.heap.get? b=some o→H b=none→(qm4 s₁.heap H).get? b=some o:=fun e n=>qmM e n
   have noA:∀{b:Addr} {o:Obj} {es:Array DictEntry} {ep:Nat},s₁.heap.get? b=some o→o.data = .dict es ep→H b=none:=fun {b o es ep} e d=>by
     cases q:H b with
     | none=>rfl
     | some u =>
       have e':b=a:=hA b (by rw [q];simp)
       subst e'
       rw [ha] at e;cases e
       have d':Data.seq vs.toArray _=Data.dict es ep:=d
       cases d'
   have nsK:∀{b:Addr} {m:Str→Option Value},s₁.heap.Ns b m→(qm4 s₁.heap H).Ns b m:=fun {b m} ⟨o,es,ep,e,d,r⟩=>⟨o,es,ep,base_of e (noA e d),d,r⟩
   have hKb:K.In (qm4 s₁.heap H):=fun b o e=>base_of (KX b o e) (by
     cases q:H b with
     | none=>rfl
     | some u =>
       have e':b=a:=hA b (by rw [q];simp)
       subst e'
       rw [hK (by rw [q];simp)] at e;cases e)
   have hM:Mod K mg (qm4 s₁.heap H):=⟨hKb,nsK hns,⟨mb,nsK hb,hbb⟩,let ⟨mc,h1,h2⟩:=hlim;⟨mc,nsK h1,h2⟩⟩
   have e0:qpx P w K mg (qm4 s₁.heap H) callerA [] s₁ H:=⟨rfl,hM,fun b o e=>qoy e,Nat.le_of_eq (qmj _ _),trivial,fun b hb=>absurd (show b∈([]:List Addr) from hb) (by simp),hok,.of_eq hg⟩
   refine codeAny_mono ((F _ hKb (nsK hns)).run callerA [] s₁ H ⟨[.ref a],[]⟩ [.ref a] [.ref a] _ _ hr e0 (hbind s₁ (.ref a)) (.cons rfl .nil) (hsp H hO hS)) fun r s' h=>?_
   cases r with
   | error e=>exact (hCX H e s' h).elim
   | ok fl =>
     cases fl with
     | next=>exact False.elim h
     | brk=>exact False.elim h
     | cont=>exact False.elim h
     | ret u =>
       obtain ⟨v,H',os,bare,un,hok',r',q⟩:=h
       have q':v = .bl true:=q
       subst q'
       obtain rfl:u=Value.bool true:=r'
       refine ⟨rfl,OldK.of_keep fun b o e=>?_,os,bare⟩
       cases q:H b with
       | none=>exact un.keep b o e q (by intro z;exact absurd (show b∈([]:List Addr) from z) (by simp)) (by simp)
       | some u =>
         rcases hO b with z | ⟨ob,xs,z⟩
         · rw [q] at z;cases z
         · have z2:=un.frzs b ob _ z
           obtain ⟨e1,_⟩:=hok b _ z
           obtain ⟨e2,_⟩:=hok' b _ z2
           rw [e] at e1;cases e1
           exact e2
 cases hk:K.lookup a with
 | some o =>
   -- the script is one of the module's own objects
   have e:=KX a o hk
   rw [ha] at e
   cases e
   refine core (fun _=>none) (fun _ => .inl rfl) (.inr ⟨_,vs.toArray,_,hk,rfl,rfl,rfl,by rw [List.size_toArray,lenV];exact hl,by simpa using rv⟩) (fun b u z=>by have z':(none:Option HO)=some u:=z;cases z') (fun b z=>absurd rfl z) fun z=>absurd rfl z
 | none =>
   refine core (fun b=>if b=a then some (.frz { cls := .type "list",data := .seq vs.toArray } (.lst (ns.map V.int))) else none) (fun b=>?_) (.inl (.inr ⟨{ cls := .type "list",data := .seq vs.toArray },if_pos rfl⟩)) (fun b u z=>?_) (fun b z=>?_) fun _=>hk
   · by_cases hb:b=a
     · exact .inr ⟨_,_,if_pos hb⟩
     · exact .inl (if_neg hb)
   · by_cases hb:b=a
     · have z':=(if_pos hb).symm.trans z
       cases z'
       subst hb
       exact ⟨ha,by rw [List.length_map];exact hl,vs,_,rv,ha⟩
     · have z':=(if_neg hb).symm.trans z
       cases z'
   · by_cases hb:b=a
     · exact hb
     · exact absurd (if_neg hb) z
end L2
namespace L2
open PySem PySem.Spec PyProof.Rows
theorem walk_of {l:PySem.W.OpenLaw} {n k:Nat} {q:Program} {loose:List Str} {XP:(Str→Option Value)→Heap→Prop} {YP:World→Heap→Prop} {d:DefRec} {K:Params→PySem.W.Frag} {CX:World→CXT} {sp:World→Sp} {x:Str}
   (hn:l.most=some n) (hn2:n≤sizeLine) (hdf:d.params.defaults=[]) (hr:qdK k callerA)
   (hY:∀(w:World) (h:Heap),YP w h→(K w.params).In h)
   (F:∀(w:World) (mg:Str→Option Value) (fa:Addr) (h:Heap),(K w.params).In h→h.Ns mainGlobals mg→mg d.name=some (.ref fa) →
     ∃fd:FuncData,(∀(s:Shared) (u:Value),BindsTo s fd ⟨[u],[]⟩ [(x,u)]) ∧
       ∀base:Heap,(K w.params).In base→base.Ns mainGlobals mg→qa1 l.prog w (K w.params) mg base (CX w) k fa fd [x] (sp w))
   (hsp:∀(w:World) (H:Hp) (a:Addr) (ns:List Int),ns.length≤n→qr6 H→SqL (K w.params) H a (ns.map V.int)→sp w [.ref a] H (fun v _=>v = .bl true) fun _ _ _=>False)
   (hCX:∀(w:World) (H:Hp) (s:Shared) (e:Value) (s':Shared),CX w [] H s (fun _ _ _=>False) e s'→False) :
   PySem.W.WalkO q loose XP YP l.row.toRowW d [] (fun f vs=>PySem.call f vs):=by
 refine Att.attach_call hn hdf fun w s₀ s₁ mg mb fa o pm cd doc a vs ns G Y ho hd hcd hmg hobj hints hlen hg=>?_
 have KX:=hY w _ Y
 obtain ⟨fd,hb,hF⟩:=F w mg fa _ KX G.T.g hmg
 exact qnB KX G.T.g G.T.b G.T.builtins G.T.nolimit hg hobj hints (Nat.le_trans hlen hn2) hr hF hb (fun H hO hS=>hsp w H a ns hlen hO hS) fun H e s'=>hCX w H s₁ e s'
end L2
namespace L2
open PySem PySem.Spec PyProof.Rows
def qfb (s:Stmt) (j:Nat):Stmt:=match s with
 | .ClassDef _ _ _ body _ _ _ _ _ _ _=>body.getD j (.Pass ⟨0,0,0,0⟩)
 | _ => .Pass ⟨0,0,0,0⟩
def qan (s:Stmt):Arguments:=match s with
 | .FunctionDef _ a _ _ _ _ _ _ _ _=>a
 | _=>{ posonlyargs:=[],args:=[],vararg:=none,kwonlyargs:=[],kw_defaults:=[],kwarg:=none,defaults:=[] }
def qam (s:Stmt):List Stmt:=match s with
 | .FunctionDef _ _ b _ _ _ _ _ _ _=>b
 | _=>[]
def qac (s:Stmt):Scope:=match s with
 | .FunctionDef _ _ _ _ _ _ sc _ _ _=>sc
 | _=>{ kind := .function,names:=[],isGenerator:=false,isCoroutine:=false }
abbrev CX0:CXT:=fun _ _ _ _ _ _=>False
abbrev E0:XK:=fun _ _ _=>False
theorem qpj {X:Cx}:qf2 CX0 X E0:=fun _ _ _ _ _ _ _ h=>h.elim
structure Fun (K:PySem.W.Frag) (x qual:Str) (st:Stmt) (f:Addr) (fd:FuncData):Prop where
 ex:∃(oc:Value) (od:Option Addr) (kV doc pm:Value) (an:Option Addr) (cdv ct:Value) (osl:Array (Option Value)),
   fd=PySem.W.fnOf x qual (qan st) (qam st) (qac st) .none kV doc pm an cdv ct∧K.lookup f=some ⟨oc,od,.func fd,osl⟩∧PySem.W.codeIn K cdv qual=true
 kp:PySem.W.keepIn K (.ref f)=true
section
variable {P:Program} {w:World} {K:PySem.W.Frag} {mg:Str→Option Value} {base:Heap}
theorem Fun.ok {x qual:Str} {st:Stmt} {f:Addr} {fd:FuncData} {N ps:List Str} {k:Nat} {sp:Sp} (F:Fun K x qual st f fd) (S:qao N ps (qac st)) (len:∀vs H Q E,sp vs H Q E→vs.length=ps.length)
   (hbody:∀(cdv:Value) (A:Around) (outer:List Env) (s:Shared) (H:Hp) (vs:List V) (Q:VK) (E:XK),qdK k (A.deeper (envOfC qual (qac st) s.heap.objs.size f cdv))→sp vs H Q E →
     ∃t,PSs (qoB CX0 P w K mg base N qual (qac st) f cdv A outer s H E).nox (qam st) t∧t { nx:=fun _ H'=>Q .non H',rt:=Q } (start N vs) H):qa1 P w K mg base CX0 (k+1) f fd ps sp:=by
 obtain ⟨oc,od,kV,doc,pm,an,cdv,ct,osl,rfl,lk,hcd⟩:=F.ex
 refine qsC lk hcd S len fun A outer s H vs Q E hr hsp=>?_
 obtain ⟨t,h,q⟩:=hbody cdv A outer s H vs Q E hr hsp
 exact ⟨t,h.nox,q⟩
theorem Fun.binds {x qual:Str} {st:Stmt} {f:Addr} {fd:FuncData} {ps:List Str} (F:Fun K x qual st f fd)
   (h:∀(kV doc pm:Value) (an:Option Addr) (cdv ct:Value) (us:List Value),us.length=ps.length→bindArgs (PySem.W.fnOf x qual (qan st) (qam st) (qac st) .none kV doc pm an cdv ct) ⟨us,[]⟩=pure (ps.zip us)):qdP K fd ps []:=by
 obtain ⟨oc,od,kV,doc,pm,an,cdv,ct,osl,rfl,lk,hcd⟩:=F.ex
 exact .all (h kV doc pm an cdv ct)
theorem qat {x qual:Str} {st:Stmt} {f:Addr} {oc:Value} {od an:Option Addr} {osl:Array (Option Value)} {kV doc pm cdv ct:Value} (l:K.lookup f=some ⟨oc,od,.func (PySem.W.fnOf x qual (qan st) (qam st) (qac st) .none kV doc pm an cdv ct),osl⟩)
 (c:PySem.W.codeIn K cdv qual=true) (k:PySem.W.keepIn K (.ref f)=true):Fun K x qual st f (PySem.W.fnOf x qual (qan st) (qam st) (qac st) .none kV doc pm an cdv ct):=⟨⟨oc,od,kV,doc,pm,an,cdv,ct,osl,rfl,l,c⟩,k⟩
end
theorem qnp {A:Around} {k:Nat} (hr:qdK k A):A.units+1<cLine:=Nat.lt_of_le_of_lt (Nat.add_le_add_left (by decide:1≤64) _) hr.units
section
variable {X:Cx}
theorem pv (i:Nat) {x:Str} {pos:Pos} (hN:X.N[i]?=some x:=by rfl) (hv:Vis X.env.scope x:=by first | exact Or.inl rfl | exact Or.inr (Or.inl rfl) | exact Or.inr (Or.inr rfl)) (hd:(x==("__debug__" : Str))=false:=by decide)
 (hcd:(x==("__classdict__" : Str))=false:=by decide):PE X (.Name x pos) (qso i):=qq7 hN hv hd hcd
end
theorem qeO {A B:Prop} (h:B):if false=true then A else B:=by
 rw [if_neg Bool.false_ne_true]
 exact h
theorem qiH {A B:Prop} (h:A):if true=true then A else B:=by
 rw [if_pos rfl]
 exact h
theorem qoF {c A B:Prop} [Decidable c] (h1:c→A) (h2:¬c→B):if c then A else B:=by
 by_cases h:c
 · rw [if_pos h]
   exact h1 h
 · rw [if_neg h]
   exact h2 h
def Same (H H':Hp):Prop:=∀b o,H b=some o→H' b=some o
theorem Same.refl (H:Hp):Same H H:=fun _ _ h=>h
theorem Same.trans {H H1 H2:Hp} (a:Same H H1) (b:Same H1 H2):Same H H2:=fun c o h=>b c o (a c o h)
theorem Same.seq {K:PySem.W.Frag} {H H':Hp} {a:Addr} {xs:List V} (e:Same H H') (h:SqL K H a xs):SqL K H' a xs:=by
 rcases h with (h | ⟨o,h⟩) | h
 · exact .inl (.inl (e _ _ h))
 · exact .inl (.inr ⟨o,e _ _ h⟩)
 · exact .inr h
end L2
namespace L2
open PySem
theorem qdn {env:Env}:∀(names:List (Str×NameKind)) (init:List (Str×Addr)),(∀n k,(n,k)∈names→k = .free→∃c,env.cells.lookup n=some c) →
   (∀n c,init.lookup n=some c→env.cells.lookup n=some c) →
   ∃cl,(forIn names init fun (x:Str×NameKind) (cs:List (Str×Addr))=>(match x with
     | (name,kind)=>if (kind==NameKind.free)=true then (do let a ←cellOf env name;pure (ForInStep.yield ((name,a)::cs))) else pure (ForInStep.yield cs):Sem (ForInStep (List (Str×Addr)))))=(pure cl:Sem (List (Str×Addr))) ∧
     (∀n c,cl.lookup n=some c→env.cells.lookup n=some c)∧(∀n,(n,NameKind.free)∈names∨(∃c,init.lookup n=some c)→∃c,cl.lookup n=some c)
 | [],init,_,h1=>⟨init,rfl,h1,fun n h=>by rcases h with h | h;cases h;exact h⟩
 | (nm,k)::r,init,h0,h1=>by
   by_cases hk:k = .free
   · obtain ⟨c,hc⟩:=h0 nm k List.mem_cons_self hk
     have h1':∀n c',((nm,c)::init).lookup n=some c'→env.cells.lookup n=some c':=fun n c' e=>by
       rw [List.lookup_cons] at e
       split at e
       · rename_i he
         have:n=nm:=by simpa using he
         subst this;cases e;exact hc
       · exact h1 n c' e
     obtain ⟨cl,e1,e2,e3⟩:=qdn r ((nm,c)::init) (fun n k' hm=>h0 n k' (List.mem_cons_of_mem _ hm)) h1'
     refine ⟨cl,?_,e2,fun n hn=>e3 n ?_⟩
     · rw [List.forIn_cons]
       subst hk
       have:cellOf env nm=pure c:=by unfold cellOf;rw [hc]
       simp only [this]
       exact e1
     · rcases hn with hn | ⟨c',hn⟩
       · rcases List.mem_cons.mp hn with e | e
         · cases e
           exact .inr ⟨c,by simp [List.lookup_cons]⟩
         · exact .inl e
       · right
         rw [List.lookup_cons]
         split
         · exact ⟨_,rfl⟩
         · exact ⟨c',hn⟩
   · obtain ⟨cl,e1,e2,e3⟩:=qdn r init (fun n k' hm=>h0 n k' (List.mem_cons_of_mem _ hm)) h1
     refine ⟨cl,?_,e2,fun n hn=>e3 n ?_⟩
     · rw [List.forIn_cons]
       have:(k==NameKind.free)=false:=by simpa using hk
       simp only [this]
       exact e1
     · rcases hn with hn | hn
       · rcases List.mem_cons.mp hn with e | e
         · cases e;exact absurd rfl hk
         · exact .inl e
       · exact .inr hn
theorem qek {scope:Scope} {env:Env} (h:∀n,(n,NameKind.free)∈scope.names→∃c,env.cells.lookup n=some c) :
   ∃cl,closureFor scope env=pure cl∧(∀n c,cl.lookup n=some c→env.cells.lookup n=some c)∧(∀n,(n,NameKind.free)∈scope.names→∃c,cl.lookup n=some c):=by
 obtain ⟨cl,e1,e2,e3⟩:=qdn (env:=env) scope.names [] (fun n k hm hk=>h n (hk▸hm)) (fun n c e=>by cases e)
 refine ⟨cl,?_,e2,fun n hn=>e3 n (.inl hn)⟩
 have e:closureFor scope env=((forIn scope.names ([]:List (Str×Addr)) fun (x:Str×NameKind) (cs:List (Str×Addr))=>(match x with
     | (name,kind)=>if (kind==NameKind.free)=true then (do let a ←cellOf env name;pure (ForInStep.yield ((name,a)::cs))) else pure (ForInStep.yield cs):Sem (ForInStep (List (Str×Addr))))) >>= fun r=>pure r):=rfl
 rw [e,e1]
 rfl
end L2
namespace L2
open PySem PySem.Spec PyProof.Rows
section
variable {X:Cx} {pins:List (Addr×Obj)} {σ:St} {H:Hp} {s:Shared}
theorem Inv.track {p:Addr} {o:HO} (I:Inv X pins σ H s) (f:qkr X pins H p) (new:qbN X.prog X.w (upd H p o) s.heap p o):Inv X pins σ (upd H p o) s:=by
 obtain ⟨f0,f1,f2,f3,f4,f5⟩:=f
 have nit:∀b u,H b=some u→b≠p:=fun b u e z=>by rw [z,f0] at e;cases e
 refine I.step (h':=s.heap) (g':=s.gens) (d':=s.drawn) (t':=s.toks) (ch:=[p]) (fun b hb=>?_) (fun b o _ _ _ e _=>e) (fun b o _ _ _ e _=>⟨o.slots,e⟩)
   (fun b o hc e n=>by rw [qax (fun z=>hc (by simp [z]))];exact n) (fun b o _ e=>⟨o,e⟩) (fun b xs e=>by rw [qax (nit b _ e)];exact e) (fun b o u e=>by rw [qax (nit b _ e)];exact e)
   (fun b ps e=>⟨#[],by rw [qax (nit b _ e),e];simp⟩) (fun m hm=>hm) (fun b u e=>?_) I.bare
 · have e:b=p:=by simpa using hb
   subst e
   exact ⟨f3,f1,f4,f5⟩
 · by_cases hb:b=p
   · subst hb;rw [qak] at e;cases e;exact new
   · rw [qax hb] at e
     exact (I.hok b u e).stay (fun c v _ q=>q) (fun c q=>by rw [qax (nit c _ q)];exact q) fun c xs q=>by rw [qax (nit c _ q)];exact q
end
section
variable {prog:Program} {w:World} {A:Around} {R:Result→Shared→Prop} {s:Shared}
theorem qhm {elt target iter:Expr} {ifs:List Expr} {scope:Scope} {pos:Pos} {it acc:Value} {env:Env} (I:Nat→Shared→Prop)
   (turn:∀n s,I n s→wpAny (model prog w) A (pyNext it) (fun r s₁=>match r with
     | none=>R (.ok .next) s₁
     | some v=>wpAny (model prog w) A (letOwnedTupleGo target it v) (fun _ s₁'=>wpAny (model prog w) A (assign target env v) (fun _ s₂ =>
         wpAny (model prog w) A (forIn ifs true fun c r=>if r=true then do let ok ←isTrue c env (eval c env);pure (ForInStep.yield ok) else pure (ForInStep.yield r)) (fun ok s₃ =>
           if ok=true then wpAny (model prog w) A (eval elt env) (fun x s₄ =>
             wpAny (model prog w) A (call (.builtin "list.append") [acc,x]) (fun _ s₅=>∃m,m<n∧I m s₅) (fun _ _=>False) s₄) (fun _ _=>False) s₃
           else ∃m,m<n∧I m s₃) (fun _ _=>False) s₂) (fun _ _=>False) s₁') (fun _ _=>False) s₁) (fun _ _=>False) s)
   (n:Nat) (h:I n s):codeAny (model prog w) A (.compLoop (.ListComp elt [⟨target,iter,ifs,0⟩] scope pos) 0 it acc env) R s:=by
 refine codeAny_loop rfl I (fun n s hI=>?_) n h
 show wpAny _ A ((compTurn (.ListComp elt [⟨target,iter,ifs,0⟩] scope pos) 0 it acc env).onRaise (fun x=>do noteFrame x env;theTreesLotGoes x)) _ _ s
 refine wpAny_noted (wpAny_noRaise ?_)
 rw [compTurn_list]
 refine wpAny_bind (wpAny_standAt (wpAny_bind (wpAny_mono (turn n s hI) (fun r s₁ h₁=>?_) fun _ _ h'=>h')))
 cases r with
 | none=>exact wpAny_pure h₁
 | some v =>
   refine wpAny_bind (wpAny_mono h₁ (fun _ s₁' h₁'=>?_) fun _ _ h'=>h')
   refine wpAny_bind (wpAny_mono h₁' (fun _ s₂ h₂=>wpAny_bind (wpAny_mono h₂ (fun ok s₃ h₃=>?_) fun _ _ h'=>h')) fun _ _ h'=>h')
   cases ok with
   | false=>exact wpAny_pure ⟨rfl,h₃⟩
   | true =>
     exact wpAny_bind (wpAny_bind (wpAny_mono h₃ (fun x s₄ h₄=>wpAny_bind (wpAny_mono h₄ (fun _ s₅ h₅=>wpAny_pure (wpAny_pure ⟨rfl,h₅⟩)) fun _ _ h'=>h')) fun _ _ h'=>h'))
end
def blk (X:Cx) (N:List Str) (scope:Scope) (cl:List (Str×Addr)) (C:Addr) (s:Shared) (H:Hp) (fp:List Addr):Cx :=
 { X with N:=N,s₀:=s,H₀:=H,env:=compEnvC scope cl C X.env,outer:=X.stack,ex:=fp,fn:=fun _=>false,pn:=[],xe:=fun _ _=>False }
def PTs (X:Cx) (ifs:List Expr) (t:TT):Prop :=
 ∀(pins:List (Addr×Obj)) (s:Shared) (σ:St) (H:Hp) (Q:Bool→Hp→Prop),Inv X pins σ H s→t σ H Q →
   wpAny (model X.prog X.w) X.A (forIn ifs true fun c r=>if r=true then do let ok ←isTrue c X.env (eval c X.env);pure (ForInStep.yield ok) else pure (ForInStep.yield r)) (TP X pins σ Q) X.xe s
def qsZ:TT:=fun _ H Q=>Q true H
theorem qaZ {X:Cx}:PTs X [] qsZ:=fun _ _ _ H _ I h=>wpAny_tests_nil ⟨H,I,h⟩
theorem qeV {X:Cx} {c:Expr} {t:TT} (h:PT X c t):PTs X [c] t:=fun pins s σ H Q I hw=>wpAny_tests_one (h pins s σ H Q I hw)
def qcf (nt:Nat) (caps:List Nat) (σ:St):St:=List.replicate nt none++caps.map fun j=>(σ[j]?).join
def qkW (nt:Nat) (g:TG):Prop:=∀(v:V) (cs:St) (H:Hp) (Q:St→Hp→Prop),g v (List.replicate nt none++cs) H Q →
 g v (List.replicate nt none++cs) H fun σ' H'=>(∀(j:Nat) (u:V),(List.replicate nt none++cs)[j]?=some (some u)→σ'[j]?=some (some u))∧Q σ' H'
theorem qaO:qkW 1 (qhN 0):=by
 intro v cs H Q h
 refine ⟨fun j u e=>?_,h⟩
 cases j with
 | zero=>simp at e
 | succ j=>simpa using e
def qh1 (nt:Nat) (caps:List Nat) (wi:TI) (g:TG) (tt:TT) (te:TE):TE:=fun σ H Q=>wi σ H fun J H1 =>
 ∃W:Nat→Nat→List V→Hp→Prop,(∃m,W 0 m [] H1)∧∀i m ys H2,W i m ys H2 →
   (J.stop i H2∧ys.length≤sizeLine∧∀p,H2 p=none→Q (.ref p) (upd H2 p (.lst ys))) ∨
   (J.go i H2∧ys.length<sizeLine∧∀x H3,J.yld i H2 x H3→g x (qcf nt caps σ) H3 fun σ4 H4=>tt σ4 H4 fun b H5 =>
     if b=true then te σ4 H5 fun y H6=>∃m',m'<m∧W (i+1) m' (ys++[y]) H6 else ∃m',m'<m∧W (i+1) m' ys H5)
structure qjB (X:Cx) (N:List Str) (nt:Nat) (caps:List Nat) (scope:Scope):Prop where
 cell:∀y∈scope.names,y.2 ≠ .cell
 kind:scope.kind = .function
 names:∀x∈scope.names,x.2 = .local→scope.names.lookup x.1=some .local
 free:∀n,(n,NameKind.free)∈scope.names→X.env.kindOf n=some .cell∨X.env.kindOf n=some .free
 cap:∀(j i:Nat),caps[j]?=some i→∃x,X.N[i]?=some x∧N[nt+j]?=some x∧(x,NameKind.free)∈scope.names∧scope.names.lookup x=some .free
 len:N.length=nt+caps.length
theorem qcD {α:Type} (f:Str×α→Str×α) (hf:∀p,(f p).1=p.1):∀(l:List (Str×α)) (x:Str),(l.map f).lookup x=(l.lookup x).map fun k=>(f (x,k)).2
 | [],_=>rfl
 | (n,k)::r,x=>by
   have ih:=qcD f hf r x
   have e:f (n,k)=(n,(f (n,k)).2):=Prod.ext (hf (n,k)) rfl
   rw [List.map_cons,e,List.lookup_cons,List.lookup_cons]
   split
   · rename_i h
     have:x=n:=by simpa using h
     subst this
     rfl
   · exact ih
theorem qgk {α:Type}:∀{l:List (Str×α)} {x:Str} {k:α},l.lookup x=some k→(x,k)∈l
 | [],_,_,h=>by cases h
 | (n,q)::r,x,k,h=>by
   rw [List.lookup_cons] at h
   split at h
   · rename_i e
     have:x=n:=by simpa using e
     subst this
     cases h
     exact List.mem_cons_self
   · exact List.mem_cons_of_mem _ (qgk h)
theorem qep {scope:Scope} {env:Env} {x:Str} (hc:∀y∈scope.names,y.2 ≠ .cell) {k:NameKind} (h:(relabel scope env).names.lookup x=some k) (hk:k = .cell∨k = .free):(x,NameKind.free)∈scope.names:=by
 unfold relabel at h
 dsimp only at h
 rw [qcD _ (fun p=>by obtain ⟨n,k⟩:=p;dsimp only;split<;>rfl)] at h
 cases hl:scope.names.lookup x with
 | none=>rw [hl] at h;cases h
 | some q =>
   rw [hl] at h
   have m:=qgk hl
   by_cases hq:q = .free
   · rw [←hq];exact m
   · exfalso
     have hb:(q==NameKind.free)=false:=by simpa using hq
     simp only [Option.map_some,hb,Bool.false_and,Bool.false_eq_true,if_false,Option.some.injEq] at h
     rcases hk with z | z
     · exact hc _ m (h.trans z)
     · exact hq (h.trans z)
theorem qhn {scope:Scope} {env:Env} {x:Str} (h:scope.names.lookup x=some .free):(relabel scope env).names.lookup x≠some .local:=by
 intro q
 unfold relabel at q
 dsimp only at q
 rw [qcD _ (fun p=>by obtain ⟨n,k⟩:=p;dsimp only;split<;>rfl),h] at q
 dsimp only [Option.map] at q
 split at q<;>cases q
def qkP (sc:Scope) (NX N:List Str) (nt:Nat) (caps:List Nat) (scope:Scope):Bool :=
 scope.names.all (fun y=>!(y.2 == .cell))&&scope.kind == .function&&scope.names.all (fun y=>!(y.2 == .local)||scope.names.lookup y.1==some .local)
 && scope.names.all (fun y=>!(y.2 == .free)||sc.names.lookup y.1==some .cell||sc.names.lookup y.1==some .free)
 && (List.range caps.length).all (fun j=>match NX[caps.getD j 0]? with
   | some x=>N[nt+j]?==some x&&scope.names.any (fun y=>y.1==x&&y.2 == .free)&&scope.names.lookup x==some .free
   | none=>false)
 && N.length==nt+caps.length
theorem qaJ {X:Cx} {N:List Str} {nt:Nat} {caps:List Nat} {scope:Scope} (h:qkP X.env.scope X.N N nt caps scope=true:=by rfl):qjB X N nt caps scope:=by
 unfold qkP at h
 simp only [Bool.and_eq_true,List.all_eq_true,Bool.or_eq_true,Bool.not_eq_true',beq_iff_eq,beq_eq_false_iff_ne,ne_eq] at h
 obtain ⟨⟨⟨⟨⟨h1,h2⟩,h3⟩,h4⟩,h5⟩,h6⟩:=h
 refine ⟨fun y hy=>h1 y hy,h2,fun y hy e=>(h3 y hy).resolve_left fun z=>z e,fun n hn=>?_,fun j i e=>?_,h6⟩
 · rcases h4 (n,.free) hn with (z | z) | z
   · exact absurd rfl z
   · exact .inl z
   · exact .inr z
 · obtain ⟨hj,e'⟩:=List.getElem?_eq_some_iff.mp e
   have q:=h5 j (List.mem_range.mpr hj)
   have eg:caps.getD j 0=i:=by rw [List.getD_eq_getElem?_getD,e];rfl
   rw [eg] at q
   cases hx:X.N[i]? with
   | none=>rw [hx] at q;cases q
   | some x =>
     rw [hx] at q
     simp only [Bool.and_eq_true,beq_iff_eq,List.any_eq_true] at q
     obtain ⟨⟨q1,y,hy,e1,e2⟩,q3⟩:=q
     refine ⟨x,rfl,q1,?_,q3⟩
     obtain ⟨n,k⟩:=y
     cases e1;cases e2
     exact hy
section
variable {X:Cx} {tg iter elt:Expr} {ifs:List Expr} {scope:Scope} {pos:Pos} {N:List Str} {nt:Nat} {caps:List Nat} {wi:TI} {g:TG} {tt:TT} {te:TE} {cl:List (Str×Addr)}
theorem qjA {pins:List (Addr×Obj)} {σ:St} {H:Hp} {s:Shared} {it:Addr} {fp:List Addr} {tn:Nat→Heap→Prop} {J:It} {RR:Value→Addr→Result→Shared→Prop} {E:Value→Shared→Prop}
   (ok:qjB X N nt caps scope) (hc:X.calm=true) (h1:∀n c,cl.lookup n=some c→X.env.cells.lookup n=some c) (h2:∀n,(n,NameKind.free)∈scope.names→∃c,cl.lookup n=some c)
   (hg:∀cl C s H fp,PG (blk X N scope cl C s H fp) tg g) (hgk:qkW nt g) (ht:∀cl C s H fp,PTs (blk X N scope cl C s H fp) ifs tt) (he:∀cl C s H fp,PE (blk X N scope cl C s H fp) elt te)
   (I:Inv X pins σ H s) (T:qpu X.prog X.w X.K tg J fp it tn) (st:tn 0 s.heap) (hf:∀b∈fp,qkr X pins H b)
   (W:Nat→Nat→List V→Hp→Prop) (Z:List V→Hp→Prop) (m0:Nat) (w0:W 0 m0 [] H)
   (turn:∀i m ys H2,W i m ys H2→(J.stop i H2∧Z ys H2) ∨
     (J.go i H2∧ys.length<sizeLine∧∀x H3,J.yld i H2 x H3→g x (qcf nt caps σ) H3 fun σ4 H4=>tt σ4 H4 fun b H5 =>
       if b=true then te σ4 H5 fun y H6=>∃m',m'<m∧W (i+1) m' (ys++[y]) H6 else ∃m',m'<m∧W (i+1) m' ys H5))
   (hRR:∀(C:Addr) (s':Shared) (ys:List V) (its:List Value) (n:Nat) (H':Hp),s.heap.objs.size<C→qbc ys its→Inv (blk X N scope cl C s H fp) [] (qcf nt caps σ) H' s' →
     s'.heap.get? s.heap.objs.size=some { cls := .type "list",data := .seq its.toArray n }→H' s.heap.objs.size=none→Z ys H'→RR (.ref s.heap.objs.size) C (.ok .next) s') :
   wpAny (model X.prog X.w) X.A (newList []) (fun acc s₃=>wpAny (model X.prog X.w) X.A (newFunctionEnv scope X.env.globals cl [] X.env.qual none .none (some X.env)) (fun cenv s₄ =>
     codeAny (model X.prog X.w) X.A (.compStart (.ListComp elt [⟨tg,iter,ifs,0⟩] scope pos) 0 (.ref it) acc { cenv with scope:=relabel scope X.env }) (RR acc cenv.locals) s₄) E s₃) E s:=by
 refine wpAny_newObj_type (wpAny_newFunctionEnv ok.cell (by intro y hy;simp at hy) (fun h₁ hns₁ hsb₁=>?_) ok.kind)
 dsimp only at hns₁ hsb₁ ⊢
 generalize hG:s.heap.push { cls := .type "list",dict:=none,data := .seq ([]:List Value).toArray }=G at hns₁ hsb₁ ⊢
 have hC:G.objs.size=s.heap.objs.size+1:=by rw [←hG,Heap.size_push]
 have hDC:s.heap.objs.size≠G.objs.size:=by rw [hC];exact Nat.ne_of_lt (Nat.lt_succ_self _)
 have hlt:s.heap.objs.size<G.objs.size:=by rw [hC];exact Nat.lt_succ_self _
 have old:∀b o,s.heap.get? b=some o→h₁.get? b=some o:=fun b o e =>
   hsb₁.extBut b o (Nat.ne_of_lt (Nat.lt_trans (Heap.lt_size e) hlt)) (Heap.get?_push_of_some _ (hG▸Heap.get?_push_of_some _ e))
 have hacc:h₁.get? s.heap.objs.size=some { cls := .type "list",data := .seq ([]:List Value).toArray 0 }:=hsb₁.extBut _ _ hDC (Heap.get?_push_of_some _ (hG▸Heap.get?_push_size _ rfl))
 have fpD:∀b∈fp,b<s.heap.objs.size:=fun b hb=>by
   obtain ⟨o,e,_⟩:=T.obj _ _ st b hb
   exact Heap.lt_size e
 have celt:∀n c,cl.lookup n=some c→c<s.heap.objs.size:=fun n c e=>by
   obtain ⟨v,q⟩:=I.cell n c (h1 n c e)
   exact q.lt
 have YOk:(blk X N scope cl G.objs.size s H fp).Ok:=by
   refine ⟨I.ok.mod,ok.kind,I.ok.glob,I.ok.blt,Nat.le_of_lt hlt,fun x y c e e'=>I.ok.inj x y c (h1 x c e) (h1 y c e'),fun x hx=>?_,fun x c hx _=>(nomatch hx),I.ok.hd,I.ok.frames,.inl rfl,
     fun b hb=>⟨Nat.ne_of_lt (Nat.lt_trans (fpD b hb) hlt),fun x c e z=>?_⟩,fun b o e=>I.bs b o e,Nat.le_trans I.ok.bsz I.sz,fun b o e hb=>?_,fun b hb hz=>?_,I.stack,I.stkFree⟩
   · rcases hx with hx | hx
     · exact h2 x (qep ok.cell hx (.inl rfl))
     · exact h2 x (qep ok.cell hx (.inr rfl))
   · exact (hf b hb).2.2.2.2.1 x c (h1 x c e) z
   · rcases (hf b hb).2.2.2.1 with z | z
     · exact I.ok.noex b o e z
     · exact absurd (Nat.lt_of_lt_of_le (Heap.lt_size e) (Nat.le_trans I.ok.bsz z)) (Nat.lt_irrefl _)
   · rcases List.mem_cons.mp (I.stkSub b hz) with z | z
     · exact (hf b hb).2.1 z
     · exact (hf b hb).2.2.1 z
 have lenb:(qcf nt caps σ).length=N.length:=by rw [ok.len];simp [qcf]
 have IY:Inv (blk X N scope cl G.objs.size s H fp) [] (qcf nt caps σ) H { s with heap:=h₁,toks:=s.toks+([]:List (Str×Value)).length }:=by
   refine ⟨YOk,rfl,I.bare,Un.kept old,⟨_,hns₁,fun i x v e1 e2 e3=>?_⟩,fun x c e=>?_,I.hok.fresh (Nat.le_of_lt hlt),fun x c e=>I.freeC x c (h1 x c e),fun p hp=>(nomatch hp),I.hok.kept old,lenb⟩
   · have hi:nt≤i:=by
       rcases Nat.lt_or_ge i nt with z | z
       · exfalso
         unfold qcf at e2
         rw [List.getElem?_append_left (by simpa using z),List.getElem?_replicate] at e2
         split at e2<;>cases e2
       · exact z
     unfold qcf at e2
     rw [List.getElem?_append_right (by simpa using hi),List.length_replicate,List.getElem?_map] at e2
     cases ej:caps[i-nt]? with
     | none=>rw [ej] at e2;cases e2
     | some j =>
       rw [ej] at e2
       have e2':(σ[j]?).join=some v:=by simpa using e2
       have e2'':σ[j]?=some (some v):=by
         cases q:σ[j]? with
         | none=>rw [q] at e2';cases e2'
         | some z=>rw [q] at e2';simp at e2';rw [e2']
       obtain ⟨y,y1,y2,y3,y4⟩:=ok.cap _ _ ej
       have:nt+(i-nt)=i:=by omega
       rw [this] at y2
       have e1':N[i]?=some x:=e1
       rw [e1'] at y2
       cases y2
       obtain ⟨m,hn,hl⟩:=I.loc
       have kx:=ok.free x y3
       have vx:Vis X.env.scope x:=by
         rcases kx with z | z
         · exact .inr (.inl z)
         · exact .inr (.inr z)
       obtain ⟨u,r,l⟩:=hl j x v y1 e2'' vx
       refine ⟨u,r,.inr ⟨?_,?_⟩⟩
       · rcases e3 with z | z | z
         · exact absurd z (qhn y4)
         · exact .inl z
         · exact .inr z
       · obtain ⟨c,hcl⟩:=h2 x y3
         refine ⟨c,hcl,?_⟩
         rcases l with ⟨k,_⟩ | ⟨_,c',hc',o,ho,hd⟩
         · rcases kx with z | z<;>(rw [z] at k;cases k)
         · have:c=c':=Option.some.inj ((h1 x c hcl).symm.trans hc')
           subst this
           exact ⟨o,old c o ho,hd⟩
   · obtain ⟨v,o,ho,hd⟩:=I.cell x c (h1 x c e)
     exact ⟨v,o,old c o ho,hd⟩
 -- the loop
 have stat:∀{pn:List (Addr×Obj)} {H':Hp},(∀b∈fp,H' b=none)→(∀p∈pn,s.heap.objs.size≤p.1)→∀b∈fp,qkr (blk X N scope cl G.objs.size s H fp) pn H' b:=fun {pn H'} hn hpn b hb =>
   ⟨hn b hb,Nat.ne_of_lt (Nat.lt_trans (fpD b hb) hlt),fun hz=>(YOk.exfs b hb hz).elim,.inl hb,fun x c e z=>(hf b hb).2.2.2.2.1 x c (h1 x c e) z,fun p hp z=>by
     have hp':p∈pn:=by simpa [blk] using hp
     have:=hpn p hp'
     rw [z] at this
     exact absurd (Nat.lt_of_lt_of_le (fpD b hb) this) (Nat.lt_irrefl _)⟩
 have hDf:s.heap.objs.size∉fp:=fun hm=>Nat.lt_irrefl _ (fpD _ hm)
 have hDs:s.heap.objs.size∉frs X.stack:=fun hm=>by
   rcases List.mem_cons.mp (I.stkSub _ hm) with z | z
   · exact absurd I.lt (by rw [←z];exact Nat.lt_irrefl _)
   · exact I.nofs (Nat.le_refl _) z
 have loop:∀s₃:Shared,s₃={ s with heap:=h₁,toks:=s.toks+([]:List (Str×Value)).length } →
     codeAny (model X.prog X.w) X.A (.compLoop (.ListComp elt [⟨tg,iter,ifs,0⟩] scope pos) 0 (.ref it) (.ref s.heap.objs.size) (compEnvC scope cl G.objs.size X.env)) (RR (.ref s.heap.objs.size) G.objs.size) s₃:=by
   rintro s₃ rfl
   refine qhm (fun n s'=>∃i ys its k H',Inv (blk X N scope cl G.objs.size s H fp) [] (qcf nt caps σ) H' s'∧tn i s'.heap∧(∀b∈fp,H' b=none)∧qbc ys its ∧
     s'.heap.get? s.heap.objs.size=some { cls := .type "list",data := .seq its.toArray k }∧H' s.heap.objs.size=none∧ys.length≤sizeLine∧W i n ys H') ?_ m0
     ⟨0,[],[],0,H,IY,T.keep _ _ _ st fun b hb o e=>old b o e,fun b hb=>(hf b hb).1,.nil,hacc,I.hok.fresh (Nat.le_refl _),Nat.zero_le _,w0⟩
   rintro n s3 ⟨i,ys,its,k,H3,I3,st3,fr3,v3,a3,n3,z3,w3⟩
   have I3p:Inv (blk X N scope cl G.objs.size s H fp) [(s.heap.objs.size,{ cls := .type "list",data := .seq its.toArray k })] (qcf nt caps σ) H3 s3:=I3.pins_of fun p hp=>by
     have e:p=(s.heap.objs.size,{ cls := .type "list",data := .seq its.toArray k }):=by simpa using hp
     subst e
     exact ⟨a3,n3,hDC,hDs,fun v z=>by cases z⟩
   have pn3:∀p∈[(s.heap.objs.size,({ cls := .type "list",data := .seq its.toArray k }:Obj))],s.heap.objs.size≤p.1:=fun p hp=>by
     have e:p=(s.heap.objs.size,{ cls := .type "list",data := .seq its.toArray k }):=by simpa using hp
     subst e
     exact Nat.le_refl _
   rcases turn i n ys H3 w3 with ⟨stop,zz⟩ | ⟨go,hlen,step⟩
   · refine thn (T.done (blk X N scope cl G.objs.size s H fp) rfl rfl rfl hc i _ s3 _ H3 _ I3p (stat fr3 pn3) st3 stop) fun r s4 ⟨hr,I4⟩=>?_
     subst hr
     have a4:=I4.pin (s.heap.objs.size,{ cls := .type "list",data := .seq its.toArray k }) (List.mem_append_right _ (by simp))
     exact hRR _ s4 ys its k H3 hlt v3 (I4.pins_of fun _ hp=>nomatch hp) a4.1 n3 zz
   · refine thn (T.item (blk X N scope cl G.objs.size s H fp) rfl rfl rfl hc i _ s3 _ H3 _ I3p (stat fr3 pn3) st3 go) fun r s4 ⟨u,hr,h4⟩=>?_
     subst hr
     refine thn h4 fun _ s5 ⟨x,H5,I5,r5,y5,st5,fr5⟩=>?_
     have I5':=I5.pinned (stat fr5 pn3) (T.obj _ _ st5)
     refine thn (hg _ _ _ _ _ _ s5 _ H5 x u _ I5' r5 (hgk _ _ _ _ (step x H5 y5))) fun _ s6 ⟨σ6,H6,I6,kp6,q6⟩=>?_
     refine thn (ht _ _ _ _ _ _ s6 σ6 H6 _ I6 q6) fun b s7 ⟨H7,I7,q7⟩=>?_
     have qsJ:∀{H8:Hp} {s8:Shared},Inv (blk X N scope cl G.objs.size s H fp) ([(s.heap.objs.size,({ cls := .type "list",data := .seq its.toArray k }:Obj))]++qhe fp s5.heap) σ6 H8 s8 →
         Inv (blk X N scope cl G.objs.size s H fp) [] (qcf nt caps σ) H8 s8∧tn (i+1) s8.heap∧(∀b∈fp,H8 b=none)∧s8.heap.get? s.heap.objs.size=some { cls := .type "list",data := .seq its.toArray k }∧H8 s.heap.objs.size=none:=fun {H8 s8} I8=>by
       have a8:=I8.pin (s.heap.objs.size,{ cls := .type "list",data := .seq its.toArray k }) (List.mem_append_right _ (List.mem_append_left _ (by simp)))
       refine ⟨(I8.pins_of (pins':=[]) fun _ hp=>absurd hp (by simp)).weak (by rw [lenb,I8.len];rfl) kp6,T.keep _ _ _ st5 fun b hb o e=>(I8.pin (b,o) (List.mem_append_right _ (List.mem_append_right _ (qc3 hb e)))).1,fun b hb=>?_,a8.1,a8.2.1⟩
       obtain ⟨o,e,d⟩:=T.obj _ _ st5 b hb
       exact (I8.pin (b,o) (List.mem_append_right _ (List.mem_append_right _ (qc3 hb e)))).2.1
     cases b with
     | false =>
       rw [if_neg (by intro z;cases z)] at q7 ⊢
       obtain ⟨m',hm,w7⟩:=q7
       obtain ⟨b1,b2,b3,b4,b5⟩:=qsJ I7
       exact ⟨m',hm,i+1,ys,its,k,H7,b1,b2,b3,v3,b4,b5,z3,w7⟩
     | true =>
       rw [if_pos rfl] at q7 ⊢
       refine thn (he _ _ _ _ _ _ s7 σ6 H7 _ I7 q7) fun u8 s8 ⟨y,H8,I8,r8,m',hm,w8⟩=>?_
       obtain ⟨b1,b2,b3,b4,b5⟩:=qsJ I8
       have hl:=v3.length
       refine call_meets F.slot_list_append ⟨_,b4,rfl⟩ F.entry_list_append (F.args_list_append_2 _ _) (PySem.list_append s.heap.objs.size its.toArray k u8 (by rw [List.size_toArray];omega)) ⟨b4,?_⟩
       have q:=PySem.IsL.update (show PySem.IsL s8.heap s.heap.objs.size its.toArray k from b4) (fun x=>x.push u8)
       have eq:its.toArray.push u8=(its++[u8]).toArray:=by simp
       rw [eq] at q
       have keep:∀b' o,b'≠s.heap.objs.size→s8.heap.get? b'=some o→(s8.heap.update s.heap.objs.size (Obj.mapSeq fun x=>x.push u8)).get? b'=some o:=fun b' o hb hu =>
         (Heap.get?_update_other s8.heap (Obj.mapSeq fun x=>x.push u8) (Ne.symm hb)).trans hu
       refine ⟨m',hm,i+1,ys++[y],its++[u8],_,H8,b1.turned (t':=s8.toks) keep b5 hDC (.inr (Nat.le_refl _)) (fun x c e z=>?_) (fun p hp=>by simp [blk] at hp),T.keep _ _ _ b2 fun b hb o e=>keep b o (fun z=>hDf (z▸hb)) e,b3,
         v3.append (.cons r8 .nil),q,b5,?_,w8⟩
       · exact absurd (celt x c e) (by rw [z];exact Nat.lt_irrefl _)
       · rw [List.length_append,List.length_singleton];omega
 exact codeAny_compStart_list (loop _ rfl) (T.self _ 0 _ _ _ (T.keep _ _ _ st fun b hb o e=>old b o e) (loop _ rfl))
theorem qhW {pins:List (Addr×Obj)} {σ:St} {H H':Hp} {s s':Shared} {fp:List Addr} {C:Addr} {ys:List V} {its:List Value} {n:Nat} {σb:St} {h':Heap}
   (I:Inv X pins σ H s) (hf:∀b∈fp,qkr X pins H b) (hC:s.heap.objs.size<C) (v:qbc ys its) (hz:ys.length≤sizeLine) (IY:Inv (blk X N scope cl C s H fp) [] σb H' s')
   (e:s'.heap.get? s.heap.objs.size=some { cls := .type "list",data := .seq its.toArray n }) (en:H' s.heap.objs.size=none) (hs:∀b o,b≠C→s'.heap.get? b=some o→h'.get? b=some o) :
   Inv X pins σ (upd H' s.heap.objs.size (.lst ys)) { s' with heap:=h' }:=by
 have hCn:H' C=none:=IY.free
 have hok:HOk X.prog X.w H' h':=fun b u q=>by
   have nC:∀c u',H' c=some u'→c≠C:=fun c u' q' z=>by rw [z,hCn] at q';cases q'
   refine (IY.hok b u q).stay (fun c w' hc q'=>hs c w' ?_ q') (fun _ q'=>q') fun _ _ q'=>q'
   rcases hc with z | z
   · rw [z];exact nC b u q
   · exact nC c _ z
 have lt:∀b o,s.heap.get? b=some o→b≠C:=fun b o q=>Nat.ne_of_lt (Nat.lt_trans (Heap.lt_size q) hC)
 have u:Un (frs X.stack) fp H H' s.heap h':=⟨fun b o q nn hb hx=>hs b o (lt b o q) (IY.base.keep b o q nn hb hx),fun b o q nn hb hx=>by
     obtain ⟨sl,q'⟩:=IY.base.slot b o q nn hb hx
     exact ⟨sl,hs b _ (lt b o q) q'⟩,IY.base.free,fun b o q hx=>by
     obtain ⟨o',q'⟩:=IY.base.there b o q hx
     exact ⟨o',hs b o' (lt b o q) q'⟩,IY.base.tups,IY.base.frzs,IY.base.tbls⟩
 have I1:Inv X pins σ H' { s' with heap:=h' }:=I.call' (s':={ s' with heap:=h' }) (ch:=fp) IY.os u hok IY.bare fun b hb=>⟨(hf b hb).2.2.2.1,(hf b hb).2.1,(hf b hb).2.2.2.2.1,(hf b hb).2.2.2.2.2⟩
 have hD:h'.get? s.heap.objs.size=some { cls := .type "list",data := .seq its.toArray n }:=hs _ _ (Nat.ne_of_lt hC) e
 exact I1.track (by
   have f:=I.fpOk (H':=H') (b:=s.heap.objs.size) (Nat.le_refl _) en
   exact f) ⟨hz,its,n,v,hD⟩
theorem qaY (ok:qjB X N nt caps scope) (hc:X.calm=true) (hi:PI X tg iter wi)
   (hg:∀cl C s H fp,PG (blk X N scope cl C s H fp) tg g) (hgk:qkW nt g) (ht:∀cl C s H fp,PTs (blk X N scope cl C s H fp) ifs tt) (he:∀cl C s H fp,PE (blk X N scope cl C s H fp) elt te)
   (hs:∀x,foldedSetIterable iter X.env x=pure x:=by intro _;rfl):PE X (.ListComp elt [⟨tg,iter,ifs,0⟩] scope pos) (qh1 nt caps wi g tt te):=by
 intro pins s σ H Q I h
 obtain ⟨cl,hcl,h1,h2⟩:=qek (scope:=scope) (env:=X.env) fun n hn=>I.ok.has n (ok.free n hn)
 rw [eval_ListComp]
 refine wpAny_comprehension_free (use:=none) rfl hs hcl ok.kind ok.names (thn (hi pins s σ H _ I h) fun xv s1 h1'=>thn h1' fun itv s2 h2'=>?_)
 obtain ⟨it,fp,tn,J,H2,e,I2,T,st2,f2,W,⟨m0,w0⟩,turn⟩:=h2'
 subst e
 refine qjA (RR:=fun acc C=>compPost (model X.prog X.w) X.A X.xe none (EP X pins σ Q) acc C) ok hc h1 h2 hg hgk ht he I2 T st2 f2 W (fun ys H'=>ys.length≤sizeLine∧∀p,H' p=none→Q (.ref p) (upd H' p (.lst ys))) m0 w0 turn ?_
 intro C s' ys its n H' hC v IY e en zz
 obtain ⟨m,hn,_⟩:=IY.loc
 exact ⟨m,hn,fun h' hs'=>⟨.ref s2.heap.objs.size,_,qhW I2 f2 hC v zz.1 IY e en (fun b o hb q=>hs'.extBut b o hb q),rfl,zz.2 _ en⟩⟩
theorem qfI {i:Nat} {y:Str} {py spos:Pos} (hN:X.N.Nodup) (hyi:X.N[i]?=some y) (hy:X.env.scope.names.lookup y=some .local) (hsw:swapsWith (.ListComp elt [⟨tg,iter,ifs,0⟩] scope pos) (some (.Name y py)) spos.line X.env=pure true)
   (ok:qjB X N nt caps scope) (hc:X.calm=true) (hi:PI X tg iter wi)
   (hg:∀cl C s H fp,PG (blk X N scope cl C s H fp) tg g) (hgk:qkW nt g) (ht:∀cl C s H fp,PTs (blk X N scope cl C s H fp) ifs tt) (he:∀cl C s H fp,PE (blk X N scope cl C s H fp) elt te)
   (hs:∀x,foldedSetIterable iter X.env x=pure x:=by intro _;rfl):PS X (.Assign [.Name y py] (.ListComp elt [⟨tg,iter,ifs,0⟩] scope pos) spos) (qra (qh1 nt caps wi g tt te) (qhN i)):=by
 intro pins s σ H D I h
 obtain ⟨cl,hcl,h1,h2⟩:=qek (scope:=scope) (env:=X.env) fun n hn=>I.ok.has n (ok.free n hn)
 rw [exec_Assign_Name_used _ _ _ _ hsw]
 refine wpAny_bind (wpAny_standAt (wpAny_bind ?_))
 show wpAny _ X.A (do let _ ←comprehension (.ListComp elt [⟨tg,iter,ifs,0⟩] scope pos) scope X.env _ (newList []) false (eval iter X.env) (some (assign (.Name y py) X.env))) _ _ s
 refine wpAny_bind (wpAny_mono (wpAny_comprehension_free (use:=some (assign (.Name y py) X.env)) (Q:=fun _ s'=>SP X pins D .next s') rfl hs hcl ok.kind ok.names
   (thn (hi pins s σ H _ I h) fun xv s1 h1'=>thn h1' fun itv s2 h2'=>?_)) (fun _ s' hq=>wpAny_pure (wpAny_pure hq)) fun _ _ e=>e)
 obtain ⟨it,fp,tn,J,H2,e,I2,T,st2,f2,W,⟨m0,w0⟩,turn⟩:=h2'
 subst e
 refine qjA (RR:=fun acc C=>compPost (model X.prog X.w) X.A X.xe (some (assign (.Name y py) X.env)) (fun _ s'=>SP X pins D .next s') acc C) ok hc h1 h2 hg hgk ht he I2 T st2 f2 W
   (fun ys H'=>ys.length≤sizeLine∧∀p,H' p=none→qhN i (.ref p) σ (upd H' p (.lst ys)) D.nx) m0 w0 turn ?_
 intro C s' ys its n H' hC v IY e en zz
 obtain ⟨m,hn,_⟩:=IY.loc
 have I3:Inv X pins σ (upd H' s2.heap.objs.size (.lst ys)) s':=qhW (h':=s'.heap) I2 f2 hC v zz.1 IY e en fun b o hb q=>q
 obtain ⟨o,es,ep,ho,r⟩:=id hn
 have fC:qkr X pins (upd H' s2.heap.objs.size (.lst ys)) C:=by
   have f:=I2.fpOk (H':=H') (b:=C) (Nat.le_of_lt hC) IY.free
   refine ⟨by rw [qax (Ne.symm (Nat.ne_of_lt hC))];exact IY.free,f.2⟩
 show wpAny (model X.prog X.w) X.A (assign (.Name y py) X.env (.ref s2.heap.objs.size)) (fun _ s''=>∃m,s''.heap.Ns C m∧∀h',Heap.SameBut C s''.heap h'→SP X pins D .next { s'' with heap:=h' }) X.xe s'
 have I3p:Inv X (pins++[(C,o)]) σ (upd H' s2.heap.objs.size (.lst ys)) s':=I3.pins_of fun p hp=>by
   rcases List.mem_append.mp hp with z | z
   · exact I3.pin p (List.mem_append_right _ z)
   · have e:p=(C,o):=by simpa using z
     subst e
     exact ⟨ho,fC.1,fC.2.1,fC.2.2.1,fun v z=>by rw [r.1] at z;cases z⟩
 refine wpAny_assign_Name (qgN I3p hN hyi (.inl hy) (v := .ref s2.heap.objs.size) rfl (fun s4 I4=>?_) (.inr hy))
 have a4:=I4.pin (C,o) (List.mem_append_right _ (List.mem_append_right _ (by simp)))
 refine ⟨m,⟨o,es,ep,a4.1,r⟩,fun h' hs'=>⟨_,_,?_,zz.2 _ en⟩⟩
 exact (I4.unpinned).turned (t':=s4.toks) (fun b o' hb q=>hs'.extBut b o' hb q) fC.1 fC.2.1 fC.2.2.2.1 fC.2.2.2.2.1 fC.2.2.2.2.2
end
end L2
namespace L2
open PySem PySem.Spec PyProof.Rows
structure Cal (P:Program) (w:World) (K:PySem.W.Frag) (mg:Str→Option Value) (base:Heap) (x:Str) (k:Nat) (ps:List Str) (sp:Sp) (f:Addr) (fd:FuncData):Prop where
 ok:qa1 P w K mg base CX0 k f fd ps sp
 mg:mg x=some (.ref f)
 kp:PySem.W.keepIn K (.ref f)=true
 bd:qdP K fd ps []
section
variable {X:Cx} {x:Str} {p pos:Pos} {e:Expr} {es:List Expr} {t:TA} {k j:Nat} {ps:List Str} {sp:Sp} {f:Addr} {fd:FuncData}
theorem qah (C:Cal X.prog X.w X.K X.mg X.base x k ps sp f fd) (hr:qdK j X.A) (hj:k≤j) (hg:Gl X x) (ha:PA X (e::es) t) (hdb:(x==("__debug__" : Str))=false:=by decide)
 (he:starEach (e::es) X.env=(false,eval e X.env)::starEach es X.env:=by rfl) (hpl:(backTo pos (starEach es X.env)).any (·.1)=false:=by rfl) :
 PE X (.Call (.Name x p) (e::es) [] pos) (qoL sp [] E0 t):=qoD C.ok (hr.mono hj) hg C.mg C.kp C.bd .nil qpj ha hdb he hpl
end
section
variable {X:Cx}
def qoN (i j:Int):Prop:=0<j∧j<2^200
theorem qoN.log {i j:Int} (h:qoN i j):j.natAbs.log2<9000:=by
 have h1:0<j:=h.1
 have h2:j<2^200:=h.2
 have h3:j.natAbs<2^200:=by omega
 have h4:j.natAbs≠0:=by omega
 have:=(Nat.log2_lt h4).mpr h3
 omega
theorem qna:OpR X (binaryOp .FloorDiv) (rI qoN fun i j => .int (i/j)):=opI fun i j _ _ _ _ _ hc q=>by
 have h1:(0:Int)<j:=hc.1
 exact floordiv_int (by omega) (by rw [Int.fdiv_eq_ediv_of_nonneg i (by omega)];exact q) (.inl (PyProof.noPylong_of_log2 hc.log))
def qmi (H:Hp):V→Option String
 | .non=>some "NoneType"
 | .bl _=>some "bool"
 | .int _=>some "int"
 | .str _=>some "str"
 | .ref a=>match H a with
   | some (.lst _)=>some "list"
   | some (.frz _ (.lst _))=>some "list"
   | some (.tup _)=>some "tuple"
   | some (.dK _)=>some "dict"
   | _=>none
 | _=>none
def qmy (t c:String):Bool:=t==c||(t == "bool" && c == "int")
theorem qoT (K:PySem.W.Frag):∀t∈["NoneType", "bool", "int", "str", "list", "tuple", "dict"],∀c∈["int", "bool", "list", "tuple", "str"],PySem.W.kitOne K (.type t) (.type c)=some (qmy t c):=by
 intro t ht c hc
 simp only [List.mem_cons,List.not_mem_nil,or_false] at ht hc
 rcases ht with rfl | rfl | rfl | rfl | rfl | rfl | rfl<;>rcases hc with rfl | rfl | rfl | rfl | rfl<;>rfl
theorem qp7 {K:PySem.W.Frag} {H:Hp} {x:V} {t:String} (h:qmi H x=some t):qj7 K H x (.type t)∧t∈["NoneType", "bool", "int", "str", "list", "tuple", "dict"]:=by
 cases x with
 | non=>cases h;exact ⟨.non,by decide⟩
 | bl b=>cases h;exact ⟨.bl b,by decide⟩
 | int i=>cases h;exact ⟨.int i,by decide⟩
 | str z=>cases h;exact ⟨.str z,by decide⟩
 | ref a =>
   unfold qmi at h
   dsimp only at h
   split at h
   · rename_i e;cases h;exact ⟨.lst e,by decide⟩
   · rename_i e;cases h;exact ⟨.frz e,by decide⟩
   · rename_i e;cases h;exact ⟨.tup e,by decide⟩
   · rename_i e;cases h;exact ⟨.dK e,by decide⟩
   · cases h
 | _=>cases h
def qlw:List V→Hp→VK→Prop:=fun xs H Q=>∃x c t,xs=[x,.ty c]∧qmi H x=some t∧c∈["int", "bool", "list", "tuple", "str"]∧Q (.bl (qmy t c)) H
theorem qca:qcC X (.builtin "isinstance") qlw:=by
 intro pins s σ H xs us Q I r h
 obtain ⟨x,c,t,rfl,hk,hc,q⟩:=h
 obtain ⟨u,w',rfl,rx,ry⟩:=qoK r
 cases (show w'=Value.type c from ry)
 obtain ⟨ty,ht⟩:=qp7 (K:=X.K) hk
 exact qkR I rx ty (qoT X.K t ht c hc) fun tk=>⟨.bl _,H,I.tok _,rfl,q⟩
def qgi (xs ys:List V):Bool:=xs.length==ys.length&&(List.range xs.length).all fun j=>eqV (xs.getD j .non) (ys.getD j .non)
theorem qk8 (ns ms:List Int):qgi (ns.map V.int) (ms.map V.int)=decide (ns=ms):=by
 unfold qgi
 rw [List.length_map,List.length_map]
 by_cases hl:ns.length=ms.length
 · rw [show (ns.length==ms.length)=true by simpa using hl,Bool.true_and]
   rw [Bool.eq_iff_iff,List.all_eq_true,decide_eq_true_eq]
   constructor
   · intro h
     refine List.ext_getElem hl fun i h1 h2=>?_
     have q:=h i (List.mem_range.mpr h1)
     simpa [List.getD,h1,h2,eqV] using q
   · rintro rfl j hj
     have hj':=List.mem_range.mp hj
     simp [List.getD,hj',eqV]
 · rw [show (ns.length==ms.length)=false by simpa using hl,Bool.false_and]
   exact (decide_eq_false fun e=>hl (by rw [e])).symm
def qrc (K:PySem.W.Frag):R2:=fun x y H Q=>∃a b xs ys,x = .ref a∧y = .ref b∧SqL K H a xs∧SqL K H b ys∧xs.all qbU=true∧ys.all qbU=true∧Q (.bl (qgi xs ys)) H
def qrt (K:PySem.W.Frag):R2:=fun x y H Q=>∃a b xs ys,x = .ref a∧y = .ref b∧SqL K H a xs∧SqL K H b ys∧xs.all qbU=true∧ys.all qbU=true∧Q (.bl (!qgi xs ys)) H
theorem qia {A:Around} {s:Shared} {xs ys:List V} {us ws:List Value} (rx:qbc xs us) (ry:qbc ys ws) (fx:xs.all qbU=true) (fy:ys.all qbU=true) (j:Nat) (h1:j<us.toArray.size) (h2:j<ws.toArray.size) :
   SeqAt.EqAt A s us.toArray[j] ws.toArray[j] (eqV (xs.getD j .non) (ys.getD j .non)):=by
 have l1:=rx.length
 have l2:=ry.length
 rw [List.size_toArray] at h1 h2
 have e1:xs[j]?=some (xs.getD j .non):=by rw [List.getD_eq_getElem?_getD,List.getElem?_eq_getElem (by omega)];rfl
 have e2:ys[j]?=some (ys.getD j .non):=by rw [List.getD_eq_getElem?_getD,List.getElem?_eq_getElem (by omega)];rfl
 obtain ⟨u,hu,ru⟩:=rx.get e1
 obtain ⟨v,hv,rv⟩:=ry.get e2
 have g1:us.toArray[j]=u:=by
   rw [List.getElem_toArray]
   exact Option.some.inj ((List.getElem?_eq_getElem h1).symm.trans hu)
 have g2:ws.toArray[j]=v:=by
   rw [List.getElem_toArray]
   exact Option.some.inj ((List.getElem?_eq_getElem h2).symm.trans hv)
 rw [g1,g2]
 exact qod ru rv (List.all_eq_true.mp fx _ (List.mem_of_getElem? e1)) (List.all_eq_true.mp fy _ (List.mem_of_getElem? e2))
theorem qqw (hu:X.A.units<cLine):OpR X (compareOp .Eq) (qrc X.K):=by
 intro pins s σ H x y v u Q I rx ry h
 obtain ⟨a,b,xs,ys,rfl,rfl,ha,hb,fx,fy,q⟩:=h
 cases rx
 cases ry
 obtain ⟨us,r1,p1,z1⟩:=I.list ha
 obtain ⟨ws,r2,p2,z2⟩:=I.list hb
 have l1:=r1.length
 have l2:=r2.length
 by_cases hl:xs.length=ys.length
 · refine SeqAt.eq_listAt p1.isList p2.isList (by simp only [List.size_toArray];omega) hu (fun j h1 h2=>qia r1 r2 fx fy j h1 h2) ⟨.bl _,H,I,rfl,?_⟩
   have e:qgi xs ys=(List.range us.toArray.size).all fun j=>eqV (xs.getD j .non) (ys.getD j .non):=by
     unfold qgi
     rw [show (xs.length==ys.length)=true by simpa using hl,Bool.true_and,List.size_toArray,l1]
   rw [←e]
   exact q
 · refine SeqAt.eq_list_lengthsAt p1.isList p2.isList (by simp only [List.size_toArray,bne_iff_ne];omega) hu ⟨.bl _,H,I,rfl,?_⟩
   have e:qgi xs ys=false:=by
     unfold qgi
     rw [show (xs.length==ys.length)=false by simpa using hl,Bool.false_and]
   rw [←e]
   exact q
theorem qrM (hu:X.A.units<cLine):OpR X (compareOp .NotEq) (qrt X.K):=by
 intro pins s σ H x y v u Q I rx ry h
 obtain ⟨a,b,xs,ys,rfl,rfl,ha,hb,fx,fy,q⟩:=h
 cases rx
 cases ry
 obtain ⟨us,r1,p1,z1⟩:=I.list ha
 obtain ⟨ws,r2,p2,z2⟩:=I.list hb
 have l1:=r1.length
 have l2:=r2.length
 by_cases hl:xs.length=ys.length
 · refine SeqAt.RcNeAt.lists p1.isList p2.isList (by simp only [List.size_toArray];omega) hu (fun j h1 h2=>qia r1 r2 fx fy j h1 h2) X.prog X.w _ _ ⟨.bl _,H,I,rfl,?_⟩
   have e:qgi xs ys=(List.range us.toArray.size).all fun j=>eqV (xs.getD j .non) (ys.getD j .non):=by
     unfold qgi
     rw [show (xs.length==ys.length)=true by simpa using hl,Bool.true_and,List.size_toArray,l1]
   rw [←e]
   exact q
 · refine SeqAt.RcNeAt.lists_lengths p1.isList p2.isList (by simp only [List.size_toArray,bne_iff_ne];omega) hu X.prog X.w _ _ ⟨.bl _,H,I,rfl,?_⟩
   have e:qgi xs ys=false:=by
     unfold qgi
     rw [show (xs.length==ys.length)=false by simpa using hl,Bool.false_and]
   rw [e] at q
   exact q
def qo3 (K:PySem.W.Frag):R2:=fun x y H Q=>∃l b xs zs,x = .ref l∧y = .ref b∧SqL K H l xs∧SqL K H b zs∧xs.length+zs.length≤sizeLine∧∀p,H p=none→Q (.ref p) (upd H p (.lst (xs++zs)))
theorem qpe:OpR X (binaryOp .Add) (qo3 X.K):=by
 intro pins s σ H x y v u Q I rx ry h
 obtain ⟨l,b,xs,zs,rfl,rfl,hl,hb,hz,q⟩:=h
 cases rx
 cases ry
 obtain ⟨us,r1,p1,z1⟩:=I.list hl
 obtain ⟨ws,r2,p2,z2⟩:=I.list hb
 obtain ⟨⟨c1,d1,t1,s1⟩,n1,e1,ec1,ed1,et1⟩:=p1
 obtain ⟨⟨c2,d2,t2,s2⟩,n2,e2,ec2,ed2,et2⟩:=p2
 simp only at ec1 ed1 et1 ec2 ed2 et2
 subst ec1 ed1 et1 ec2 ed2 et2
 have l1:=r1.length
 have l2:=r2.length
 refine concat_meets ⟨_,e1,rfl⟩ ⟨_,e2,rfl⟩ noFill_list_add seq_list_add PySem.F.slot_list_add PySem.F.entry_list_add (PySem.F.args_list_add_2 _ _) (list_addW l b us.toArray ws.toArray n1 n2 none none s1 s2 (by simp only [List.size_toArray];omega)) ⟨e1,e2,?_⟩
 have ea:us.toArray++ws.toArray=(us++ws).toArray:=by simp
 rw [ea]
 exact ⟨.ref _,_,I.lnew (t':=s.toks) (r1.append r2) (by rw [List.length_append];omega),rfl,q _ I.fresh⟩
def qsb:V→V→Bool
 | .bl _,.bl _=>true
 | .non,.bl _=>true
 | .bl _,.non=>true
 | .non,.non=>true
 | .int _,.bl _=>true
 | .int _,.non=>true
 | .str _,.bl _=>true
 | .str _,.non=>true
 | .ref _,.bl _=>true
 | .ref _,.non=>true
 | _,_=>false
theorem qrp {x y:V} {v u:Value} (rx:qbm x v) (ry:qbm y u) (h:qsb x y=true):plainIs v u=true∧(v==u)=decide (x=y):=by
 cases x<;>cases y<;>first
   | exact absurd (show false=true from h) Bool.false_ne_true
   | (cases rx;cases ry;exact ⟨rfl,rfl⟩)
   | (cases rx;cases ry;rename_i a b;cases a<;>cases b<;>exact ⟨rfl,rfl⟩)
   | (obtain ⟨t,rfl⟩:=rx;cases ry;exact ⟨rfl,rfl⟩)
theorem qn4:OpR X (compareOp .Is) (fun x y H Q=>qsb x y=true∧Q (.bl (decide (x=y))) H):=by
 intro pins s σ H x y v u Q I rx ry h
 obtain ⟨e1,e2⟩:=qrp rx ry h.1
 exact wpAny_is_plain e1 ⟨.bl _,H,I,by rw [e2];rfl,h.2⟩
theorem qeW:OpR X (compareOp .IsNot) (fun x y H Q=>qsb x y=true∧Q (.bl (!decide (x=y))) H):=by
 intro pins s σ H x y v u Q I rx ry h
 obtain ⟨e1,e2⟩:=qrp rx ry h.1
 exact wpAny_isNot_plain e1 ⟨.bl _,H,I,by rw [e2];rfl,h.2⟩
theorem qln:MtR X "int.bit_length" (fun x vs H Q=>∃i,x = .int i∧vs=[]∧Q (.int (Builtin.Int.intBits i)) H):=by
 intro pins s σ H x vs v us Q I rx rv h
 obtain ⟨i,rfl,rfl,q⟩:=h
 obtain ⟨t,rfl⟩:=rx
 cases rv
 exact call_int_bit_length ⟨.int _,H,I.tok _,⟨_,rfl⟩,q⟩
theorem qeQ {x:Str} {i:Int} {p:Pos} (h:∃t,X.mg x=some (.int i t)) (hg:Gl X x) (hd:(x==("__debug__" : Str))=false:=by decide):PE X (.Name x p) (tC (.int i)):=by
 obtain ⟨t,h⟩:=h
 exact qea hg h ⟨t,rfl⟩ hd
theorem qtb {CX:CXT} {P:Program} {w:World} {K:PySem.W.Frag} {mg:Str→Option Value} {base:Heap} {N:List Str} {qual:Str} {scope:Scope} {f:Addr} {cd:Value} {A:Around} {outer:List Env} {s:Shared} {H:Hp} {E:XK} :
 (qoB CX P w K mg base N qual scope f cd A outer s H E).K=K:=rfl
theorem qdG {K:PySem.W.Frag} {H:Hp} {a:Addr} {xs:List V} (h:H a=some (.lst xs)):tyV K "list" (.ref a) H := .inl ⟨rfl,xs,SqL.of h⟩
theorem qoz {K:PySem.W.Frag} {H:Hp} {a:Addr} {xs:List V}:tyV K "list" (.ref a) (upd H a (.lst xs))↔True:=⟨fun _=>trivial,fun _=>qdG qak⟩
theorem qrD {H:Hp} {a:Addr} {xs:List V} (h:H a=some (.lst xs)):qmi H (.ref a)=some "list" := by unfold qmi;dsimp only;rw [h]
theorem Same.upd {H H':Hp} {a:Addr} {o:HO} (e:Same H H') (h:H a=none):Same H (L2.upd H' a o):=fun b u q=>by
 rw [qax (fun z=>by rw [z,h] at q;cases q)]
 exact e b u q
theorem Same.new {H:Hp} {a:Addr} {o:HO} (h:H a=none):Same H (L2.upd H a o):=(Same.refl H).upd h
section
variable {K:PySem.W.Frag} {H:Hp} {Q:VK} {i j:Int} {a:Addr} {b c:Bool} {z z':Str} {y:V} {g:Int→Int→V}
theorem qp1:qo3 K (.int i) y H Q↔False:=⟨fun ⟨_,_,_,_,e,_⟩=>(nomatch e),False.elim⟩
theorem qrL:qrc K (.int i) y H Q↔False:=⟨fun ⟨_,_,_,_,e,_⟩=>(nomatch e),False.elim⟩
theorem qrf:qrc K (.bl b) y H Q↔False:=⟨fun ⟨_,_,_,_,e,_⟩=>(nomatch e),False.elim⟩
theorem qrG:qrc K (.str z) y H Q↔False:=⟨fun ⟨_,_,_,_,e,_⟩=>(nomatch e),False.elim⟩
theorem qq4:qrc K .non y H Q↔False:=⟨fun ⟨_,_,_,_,e,_⟩=>(nomatch e),False.elim⟩
theorem qqM:qrt K (.int i) y H Q↔False:=⟨fun ⟨_,_,_,_,e,_⟩=>(nomatch e),False.elim⟩
theorem qqC:qrt K (.bl b) y H Q↔False:=⟨fun ⟨_,_,_,_,e,_⟩=>(nomatch e),False.elim⟩
theorem qqv:qrt K (.str z) y H Q↔False:=⟨fun ⟨_,_,_,_,e,_⟩=>(nomatch e),False.elim⟩
theorem qrI:qrt K .non y H Q↔False:=⟨fun ⟨_,_,_,_,e,_⟩=>(nomatch e),False.elim⟩
theorem qsj:rEq (.ref a) y H Q↔False:=⟨fun ⟨e,_⟩=>by cases y<;>exact absurd (show false=true from e) Bool.false_ne_true,False.elim⟩
theorem qsr:rNe (.ref a) y H Q↔False:=⟨fun ⟨e,_⟩=>by cases y<;>exact absurd (show false=true from e) Bool.false_ne_true,False.elim⟩
theorem qr2:rEq (.int i) (.int j) H Q↔Q (.bl (decide (i=j))) H:=by unfold rEq;simp [show qnv (.int i) (.int j)=true from rfl]
theorem qsl:rNe (.int i) (.int j) H Q↔Q (.bl (!decide (i=j))) H:=by unfold rNe;simp [show qnv (.int i) (.int j)=true from rfl]
theorem qsI:rEq (.bl b) (.bl c) H Q↔Q (.bl (decide (b=c))) H:=by unfold rEq;simp [show qnv (.bl b) (.bl c)=true from rfl]
theorem qrZ:rNe (.bl b) (.bl c) H Q↔Q (.bl (!decide (b=c))) H:=by unfold rNe;simp [show qnv (.bl b) (.bl c)=true from rfl]
theorem qsF:rEq (.str z) (.str z') H Q↔Q (.bl (decide (z=z'))) H:=by unfold rEq;simp [show qnv (.str z) (.str z')=true from rfl]
theorem qsm:rNe (.str z) (.str z') H Q↔Q (.bl (!decide (z=z'))) H:=by unfold rNe;simp [show qnv (.str z) (.str z')=true from rfl]
theorem qr0:rI0 g (.ref a) y H Q↔False:=⟨fun ⟨_,_,e,_⟩=>(nomatch e),False.elim⟩
theorem qsH:rI0 g (.int i) (.int j) H Q↔Q (g i j) H:=⟨fun ⟨_,_,e,e',q⟩=>by cases e;cases e';exact q,fun q=>⟨i,j,rfl,rfl,q⟩⟩
theorem qs8 {C:Int→Int→Prop}:rI C g (.int i) (.int j) H Q↔C i j∧Q (g i j) H:=⟨fun ⟨_,_,e,e',q⟩=>by cases e;cases e';exact q,fun q=>⟨i,j,rfl,rfl,q⟩⟩
theorem qjb {xs:List V}:qme (.ref a) [y] (upd H a (.lst xs)) Q↔xs.length<sizeLine∧Q .non (upd H a (.lst (xs++[y]))):=by
 constructor
 · rintro ⟨l,ys,v,e1,e2,e3,e4,q⟩
   cases e1;cases e2
   rw [qak] at e3
   cases e3
   rw [qe9] at q
   exact ⟨e4,q⟩
 · rintro ⟨e,q⟩
   exact ⟨a,xs,y,rfl,rfl,qak,e,by rw [qe9];exact q⟩
theorem qcg (h0:0≤j) (h1:j≤1000) (h2:-1000≤i) (h3:i≤1000):qsK i j:=⟨h0,by omega,by omega⟩
end
def qfW (J:It) (g:TG) (tb:TS) (D:qf0) (σ:St) (H:Hp):Prop:=∃W:Nat→Nat→St→Hp→Prop,(∃m,W 0 m σ H)∧∀i m σ H,W i m σ H →
 (J.stop i H∧D.nx σ H)∨(J.go i H∧∃N:St→Hp→Prop,(∀σ' H',N σ' H'→∃m',m'<m∧W (i+1) m' σ' H')∧∀x H',J.yld i H x H'→g x σ H' fun σ2 H2=>tb { D with nx:=N,ct:=N,bk:=D.nx } σ2 H2)
def qdL (J:It) (nt:Nat) (caps:List Nat) (g:TG) (tt:TT) (te:TE) (σ:St) (H:Hp) (Q:VK):Prop:=∃W:Nat→Nat→List V→Hp→Prop,(∃m,W 0 m [] H)∧∀i m ys H2,W i m ys H2 →
 (J.stop i H2∧ys.length≤sizeLine∧∀p,H2 p=none→Q (.ref p) (upd H2 p (.lst ys))) ∨
 (J.go i H2∧ys.length<sizeLine∧∀x H3,J.yld i H2 x H3→g x (qcf nt caps σ) H3 fun σ4 H4=>tt σ4 H4 fun b H5 =>
   if b=true then te σ4 H5 fun y H6=>∃m',m'<m∧W (i+1) m' (ys++[y]) H6 else ∃m',m'<m∧W (i+1) m' ys H5)
section
variable {K:PySem.W.Frag} {g:TG} {tb:TS} {D:qf0} {σ:St} {H:Hp} {a:Addr} {xs:List V} {tl:TE} {ta:TA} {nt:Nat} {caps:List Nat} {tt:TT} {te:TE} {Q:VK}
theorem qrn:qoc (qpS K tl) g tb D σ H↔tl σ H fun x H1=>∃a,x = .ref a∧(∃xs,SqL K H1 a xs)∧qfW (Itl K a) g tb D σ H1:=Iff.rfl
theorem qp3:qoc (qp4 ta) g tb D σ H↔ta σ H fun vs H1=>∃j:Int,vs=[.int j]∧-(2^62)≤j∧j<2^62∧qfW (Itr 0 j.toNat) g tb D σ H1:=Iff.rfl
theorem qpv:qoc (qq6 ta) g tb D σ H↔ta σ H fun vs H1=>∃i j:Int,vs=[.int i,.int j]∧(-(2^62)≤i∧i<2^62∧-(2^62)≤j∧j<2^62)∧qfW (Itr i (j-i).toNat) g tb D σ H1:=Iff.rfl
theorem qpP:qh1 nt caps (qpS K tl) g tt te σ H Q↔tl σ H fun x H1=>∃a,x = .ref a∧(∃xs,SqL K H1 a xs)∧qdL (Itl K a) nt caps g tt te σ H1 Q:=Iff.rfl
theorem qm2:qh1 nt caps (qp4 ta) g tt te σ H Q↔ta σ H fun vs H1=>∃j:Int,vs=[.int j]∧-(2^62)≤j∧j<2^62∧qdL (Itr 0 j.toNat) nt caps g tt te σ H1 Q:=Iff.rfl
theorem qni:qh1 nt caps (qq6 ta) g tt te σ H Q↔ta σ H fun vs H1=>∃i j:Int,vs=[.int i,.int j]∧(-(2^62)≤i∧i<2^62∧-(2^62)≤j∧j<2^62)∧qdL (Itr i (j-i).toNat) nt caps g tt te σ H1 Q:=Iff.rfl
theorem qpC (Pv:Nat→St→Hp→Prop) (h0:Pv 0 σ H) (hl:∀i σ H,i≤xs.length→Pv i σ H→SqL K H a xs)
 (hs:∀i x σ H,xs[i]?=some x→Pv i σ H→g x σ H fun σ2 H2=>tb { D with nx:=Pv (i+1),ct:=Pv (i+1),bk:=D.nx } σ2 H2) (hd:∀σ H,Pv xs.length σ H→D.nx σ H):qfW (Itl K a) g tb D σ H:=qnk Pv h0 hl hs hd
theorem qsv {lo:Int} {n:Nat} (Pv:Nat→St→Hp→Prop) (h0:Pv 0 σ H)
 (hs:∀i σ H,i<n→Pv i σ H→g (.int (lo+i)) σ H fun σ2 H2=>tb { D with nx:=Pv (i+1),ct:=Pv (i+1),bk:=D.nx } σ2 H2) (hd:∀σ H,Pv n σ H→D.nx σ H):qfW (Itr lo n) g tb D σ H:=ql4 Pv h0 hs hd
end
section
variable {t u t' u':TS} {te:TE} {g:TG} {c:TT} {D:qf0} {σ:St} {H:Hp} {wi:TI} {tb:TS}
theorem qnd:ql2 (qra te g) u D σ H↔te σ H fun x H1=>g x σ H1 (u D):=Iff.rfl
theorem qlc:ql2 (qoR te) u D σ H↔te σ H fun _ H1=>u D σ H1:=Iff.rfl
theorem qnt:ql2 (qoc wi g tb) u D σ H↔qoc wi g tb { D with nx:=u D } σ H:=Iff.rfl
theorem qkp:ql2 (qjP c tb) u D σ H↔qjP c tb { D with nx:=u D } σ H:=Iff.rfl
theorem qnC:ql2 (qrr c (qsq te) qky) u D σ H↔c σ H fun b H1=>if b=true then te σ H1 D.rt else u D σ H1:=Iff.rfl
theorem qo0:qrr c t u D σ H↔c σ H fun b H1=>if b=true then t D σ H1 else u D σ H1:=Iff.rfl
theorem qkz (I:St→Hp→Prop) (h2:∀σ' H',I σ' H'→u D σ' H') (h1:∀N:St→Hp→Prop,(∀σ' H',I σ' H'→N σ' H')→t { D with nx:=N } σ H):ql2 t u D σ H:=h1 (u D) h2
end
theorem rdg {t:TS} {D:qf0} {σ σ':St} {H:Hp} (e:σ=σ') (h:t D σ' H):t D σ H:=e▸h
def qqO (K:PySem.W.Frag) (x y:V) (H:Hp) (b:Bool):Prop:=(qnv x y=true∧b=decide (x=y)) ∨
 ∃a c xs ys,x = .ref a∧y = .ref c∧SqL K H a xs∧SqL K H c ys∧xs.all qbU=true∧ys.all qbU=true∧b=qgi xs ys
def qou (K:PySem.W.Frag):R2:=fun x y H Q=>∃b,qqO K x y H b∧Q (.bl b) H
def qoh (K:PySem.W.Frag):R2:=fun x y H Q=>∃b,qqO K x y H b∧Q (.bl (!b)) H
def qs2 (K:PySem.W.Frag) (x y:V) (H:Hp) (v:V):Prop:=(∃p xs i,x = .ref p∧y = .int i∧SqL K H p xs∧atI xs i=some v)∨∃p xs i,x = .ref p∧y = .int i∧SqT K H p xs∧atI xs i=some v
def qsu (K:PySem.W.Frag):R2:=fun x y H Q=>∃v,qs2 K x y H v∧Q v H
section
variable {K:PySem.W.Frag} {H:Hp} {Q:VK} {i j:Int} {a c:Addr} {b b':Bool} {z z':Str} {xs ys:List V}
theorem qoj:qqO K (.int i) (.int j) H b↔b=decide (i=j):=by
 constructor
 · rintro (⟨_,e⟩ | ⟨_,_,_,_,e,_⟩)
   · rw [e];simp
   · cases e
 · intro e;exact .inl ⟨rfl,by rw [e];simp⟩
theorem qog {b'':Bool}:qqO K (.bl b') (.bl b) H b''↔b''=decide (b'=b):=by
 constructor
 · rintro (⟨_,e⟩ | ⟨_,_,_,_,e,_⟩)
   · rw [e];simp
   · cases e
 · intro e;exact .inl ⟨rfl,by rw [e];simp⟩
theorem qn9:qqO K (.str z) (.str z') H b↔b=decide (z=z'):=by
 constructor
 · rintro (⟨_,e⟩ | ⟨_,_,_,_,e,_⟩)
   · rw [e];simp
   · cases e
 · intro e;exact .inl ⟨rfl,by rw [e];simp⟩
theorem qqA:qou K (.int i) (.int j) H Q↔Q (.bl (decide (i=j))) H:=by unfold qou;simp [qoj]
theorem qrx:qoh K (.int i) (.int j) H Q↔Q (.bl (!decide (i=j))) H:=by unfold qoh;simp [qoj]
theorem qqi:qou K (.bl b) (.bl b') H Q↔Q (.bl (decide (b=b'))) H:=by unfold qou;simp [qog]
theorem qq3:qoh K (.bl b) (.bl b') H Q↔Q (.bl (!decide (b=b'))) H:=by unfold qoh;simp [qog]
theorem qrz:qou K (.str z) (.str z') H Q↔Q (.bl (decide (z=z'))) H:=by unfold qou;simp [qn9]
theorem qrb:qoh K (.str z) (.str z') H Q↔Q (.bl (!decide (z=z'))) H:=by unfold qoh;simp [qn9]
theorem qj1 (h1:SqL K H a xs) (h2:SqL K H c ys) (f1:xs.all qbU=true) (f2:ys.all qbU=true) (q:Q (.bl (qgi xs ys)) H):qou K (.ref a) (.ref c) H Q:=⟨_,.inr ⟨a,c,xs,ys,rfl,rfl,h1,h2,f1,f2,rfl⟩,q⟩
theorem qss (h1:SqL K H a xs) (h2:SqL K H c ys) (f1:xs.all qbU=true) (f2:ys.all qbU=true) (q:Q (.bl (!qgi xs ys)) H):qoh K (.ref a) (.ref c) H Q:=⟨_,.inr ⟨a,c,xs,ys,rfl,rfl,h1,h2,f1,f2,rfl⟩,q⟩
theorem qbl {v:V} (h:SqL K H a xs) (e:atI xs i=some v) (q:Q v H):qsu K (.ref a) (.int i) H Q:=⟨v,.inl ⟨a,xs,i,rfl,rfl,h,e⟩,q⟩
theorem qkk {v:V} (h:SqT K H a xs) (e:atI xs i=some v) (q:Q v H):qsu K (.ref a) (.int i) H Q:=⟨v,.inr ⟨a,xs,i,rfl,rfl,h,e⟩,q⟩
theorem qaC (h:X.K=K) (hu:X.A.units<cLine):OpR X (compareOp .Eq) (qou K):=by
 subst h
 intro pins s σ H x y v u Q I rx ry q
 obtain ⟨b,hb,q⟩:=q
 rcases hb with ⟨hs,rfl⟩ | ⟨a,c,xs,ys,rfl,rfl,h1,h2,f1,f2,rfl⟩
 · exact qst pins s σ H x y v u Q I rx ry ⟨hs,q⟩
 · exact qqw hu pins s σ H _ _ v u Q I rx ry ⟨a,c,xs,ys,rfl,rfl,h1,h2,f1,f2,q⟩
theorem qdz (h:X.K=K) (hu:X.A.units<cLine):OpR X (compareOp .NotEq) (qoh K):=by
 subst h
 intro pins s σ H x y v u Q I rx ry q
 obtain ⟨b,hb,q⟩:=q
 rcases hb with ⟨hs,rfl⟩ | ⟨a,c,xs,ys,rfl,rfl,h1,h2,f1,f2,rfl⟩
 · exact qr3 pins s σ H x y v u Q I rx ry ⟨hs,q⟩
 · exact qrM hu pins s σ H _ _ v u Q I rx ry ⟨a,c,xs,ys,rfl,rfl,h1,h2,f1,f2,q⟩
theorem qg1 (h:X.K=K):OpR X (binaryOp .Add) (qo3 K):=h▸qpe
theorem qlk (h:X.K=K):OpR X (compareOp .NotIn) (rIn K true):=h▸qic
theorem qpN {r r':R2} (h:IxR X r) (hr:∀x y H Q,r' x y H Q→r x y H Q):IxR X r' :=
 fun value slice pins s σ H x y v u Q I rx ry q e=>h value slice pins s σ H x y v u Q I rx ry (hr _ _ _ _ q) e
theorem qcB (h:X.K=K):IxR X (qsu K):=by
 subst h
 refine qpN qqn fun x y H Q q=>?_
 obtain ⟨z,hz,q⟩:=q
 rcases hz with ⟨p,xs,i,e1,e2,e3,e4⟩ | ⟨p,xs,i,e1,e2,e3,e4⟩
 · exact .inl ⟨p,xs,i,z,e1,e2,e3,e4,q⟩
 · exact .inr (.inl ⟨p,xs,i,z,e1,e2,e3,e4,q⟩)
theorem qaT (h:X.K=K):qcC X (.builtin "len") (fun xs H Q=>∃p ys,xs=[.ref p]∧(SqL K H p ys∨SqT K H p ys)∧Q (.int ys.length) H):=h▸qhd
theorem qsg (h:X.K=K):SlR X (qsM K):=h▸qp2
end
def sp1 (R:V→Hp→VK→Prop):Sp:=fun vs H Q _=>∃a,vs=[a]∧R a H Q
def sp2 (R:V→V→Hp→VK→Prop):Sp:=fun vs H Q _=>∃a b,vs=[a,b]∧R a b H Q
def sp3 (R:V→V→V→Hp→VK→Prop):Sp:=fun vs H Q _=>∃a b c,vs=[a,b,c]∧R a b c H Q
def sp4 (R:V→V→V→V→Hp→VK→Prop):Sp:=fun vs H Q _=>∃a b c d,vs=[a,b,c,d]∧R a b c d H Q
def qkM (K:PySem.W.Frag):Sp:=sp1 fun x H Q=>∃(a:Addr) (ns:List Int),x = .ref a∧SqL K H a (ns.map V.int)∧ns.length≤63∧∀H',Q (.bl true) H'
end
end L2
namespace Tim
open PySem PyProof.Rows
structure TB (a₀:Array Keyed) (st:SortSt):Prop where
 perm:(arrOf st).Perm a₀
 kind:kindOf st=oneType'
 failed:failedOf st=none
theorem TB.size {a₀:Array Keyed} {st:SortSt} (h:TB a₀ st):(arrOf st).size=a₀.size:=h.perm.size_eq
theorem TB.keys {a₀:Array Keyed} {st:SortSt} (h:TB a₀ st) (h0:IntKeys a₀):IntKeys (arrOf st):=fun p hp=>h0 p ((Array.perm_iff_toList_perm.mp h.perm).mem_iff.mp hp)
theorem TB.at {a₀:Array Keyed} {st:SortSt} (h:TB a₀ st) (h0:IntKeys a₀) {i:Nat} (hi:i<a₀.size):∃t q,(arrOf st)[i]?=some (.int (K (arrOf st) i) t,q):=by
 have hlt:i<(arrOf st).size:=h.size▸hi
 obtain ⟨n,t,hn⟩:=h.keys h0 (arrOf st)[i] (by simp)
 generalize hp:(arrOf st)[i]=p at hn
 obtain ⟨u,v⟩:=p
 cases hn
 have e:=Array.getElem?_eq_getElem hlt
 rw [hp] at e
 exact ⟨t,v,by rw [show K (arrOf st) i=n by simp only [K,e,numOf],e]⟩
def SR (xs:Array Keyed) (lo hi:Nat):Prop:=∀i j,lo≤i→i≤j→j<hi→K xs i≤K xs j
def NR (xs:Array Keyed) (lo hi:Nat):Prop:=∀i j,lo≤i→i≤j→j<hi→K xs j≤K xs i
theorem SR.one (xs:Array Keyed) (lo:Nat):SR xs lo (lo+1):=fun i j h1 h2 h3=>by
 have:i=j:=by omega
 subst this;exact Int.le_refl _
def Chg (xs ys:Array Keyed) (lo:Nat):Prop:=ys.Perm xs∧∀i,i<lo→ys[i]?=xs[i]?
theorem Chg.refl (xs:Array Keyed) (lo:Nat):Chg xs xs lo:=⟨Array.Perm.refl _,fun _ _=>rfl⟩
theorem Chg.trans {xs ys zs:Array Keyed} {lo:Nat} (h1:Chg xs ys lo) (h2:Chg ys zs lo):Chg xs zs lo:=⟨h2.1.trans h1.1,fun i hi=>(h2.2 i hi).trans (h1.2 i hi)⟩
theorem Chg.mirror {xs:Array Keyed} {lo i j:Nat} (hj:j≤xs.size) (hi:lo≤i):Chg xs (mirror xs i j ((j-i)/2)) lo:=⟨mirror_perm _ _ _ _,fun k hk=>by rw [getElem?_mirror_all hj,if_neg (by omega)]⟩
theorem Chg.bubble {xs:Array Keyed} {lo src d:Nat} (hs:src<xs.size) (hd:d≤src) (hl:lo≤src-d):Chg xs (bubble xs src d) lo:=⟨bubble_perm _ _ _,fun k hk=>by rw [getElem?_bubble hs d hd,if_neg (by omega),if_neg (by omega)]⟩
def At (st st':SortSt) (lo:Nat):Prop:=∃xs,st'=setArr st xs∧Chg (arrOf st) xs lo
theorem At.refl (st:SortSt) (lo:Nat):At st st lo:=⟨arrOf st,rfl,Chg.refl _ _⟩
theorem At.trans {s1 s2 s3:SortSt} {lo:Nat} (h1:At s1 s2 lo) (h2:At s2 s3 lo):At s1 s3 lo:=by
 obtain ⟨xs,rfl,c1⟩:=h1
 obtain ⟨ys,rfl,c2⟩:=h2
 exact ⟨ys,rfl,c1.trans c2⟩
theorem At.set {st:SortSt} {lo:Nat} {xs:Array Keyed} (h:Chg (arrOf st) xs lo):At st (setArr st xs) lo:=⟨xs,rfl,h⟩
theorem TB.at' {a₀:Array Keyed} {st st':SortSt} {lo:Nat} (h:TB a₀ st) (q:At st st' lo):TB a₀ st':=by
 obtain ⟨xs,rfl,c⟩:=q
 exact ⟨c.1.trans h.perm,h.kind,h.failed⟩
section
variable {prog:Program} {w:World} {A:Around} {E:Value→Shared→Prop} {s:Shared} {a₀:Array Keyed}
theorem cmp {st:SortSt} {i j:Nat} {Q:Option Bool→SortSt→Prop} (h0:IntKeys a₀) (hB:TB a₀ st) (hi:i<a₀.size∧j<a₀.size)
   (h1:K (arrOf st) i<K (arrOf st) j→Q (some true) st) (h2:K (arrOf st) j≤K (arrOf st) i→Q (some false) st):wpS (model prog w) A E s (ltAt' i j) Q st:=by
 obtain ⟨_,_,e⟩:=hB.at h0 hi.1
 obtain ⟨_,_,e'⟩:=hB.at h0 hi.2
 refine wpS_ltAt hB.kind e e' ?_
 by_cases c:K (arrOf st) i<K (arrOf st) j
 · simpa [c] using h1 c
 · simpa [c] using h2 (by omega)
theorem qq9 {xs:Array Keyed} {lo k l:Nat} (hs:SR xs lo (lo+k)) (hz:lo+k<xs.size) (hl:l≤k) (h1:∀i,lo≤i→i<lo+l→K xs i≤K xs (lo+k)) (h2:∀i,lo+l≤i→i<lo+k→K xs (lo+k)<K xs i) :
   SR (bubble xs (lo+k) (lo+k-(lo+l))) lo (lo+(k+1)):=by
 have e:lo+k-(lo+k-(lo+l))=lo+l:=by omega
 have rd:∀i,K (bubble xs (lo+k) (lo+k-(lo+l))) i=if i=lo+l then K xs (lo+k) else if lo+l<i∧i≤lo+k then K xs (i-1) else K xs i:=fun i=>by
   rw [K_bubble hz (by omega),e]
 intro i j b1 b2 b3
 rw [rd,rd]
 rcases Nat.lt_trichotomy i (lo+l) with c | c | c<;>rcases Nat.lt_trichotomy j (lo+l) with d | d | d
 all_goals first | (exfalso;omega) | skip
 · rw [if_neg (by omega),if_neg (by omega),if_neg (by omega),if_neg (by omega)];exact hs _ _ b1 b2 (by omega)
 · rw [if_neg (by omega),if_neg (by omega),if_pos d];exact h1 _ b1 c
 · rw [if_neg (by omega),if_neg (by omega),if_neg (by omega),if_pos (by omega)];exact hs _ _ b1 (by omega) (by omega)
 · rw [if_pos c,if_pos d];exact Int.le_refl _
 · rw [if_pos c,if_neg (by omega),if_pos (by omega)];exact Int.le_of_lt (h2 _ (by omega) (by omega))
 · rw [if_neg (by omega),if_pos (by omega),if_neg (by omega),if_pos (by omega)];exact hs _ _ (by omega) (by omega) (by omega)
theorem qpA {st:SortSt} {lo n ok:Nat} {Q:Bool→SortSt→Prop} (h0:IntKeys a₀) (hn:lo+n≤a₀.size) (hok:1≤ok∧ok≤n) (hB:TB a₀ st) (hs:SR (arrOf st) lo (lo+ok))
   (h:∀st',At st st' lo→SR (arrOf st') lo (lo+n)→Q true st'):wpS (model prog w) A E s (binarySort' lo n ok) Q st:=by
 rw [binarySort'_eq]
 have e1:max ok 1=ok:=by omega
 have e2:max (max ok 1) n=n:=by omega
 refine wpS_bind (wpS_mono (wpS_forRange (I:=fun k c z=>c=(none,())∧At st z lo∧SR (arrOf z) lo (lo+k)) (Q:=fun c z=>c=(none,())∧At st z lo∧SR (arrOf z) lo (lo+n)) ?turn (fun c z q=>by rwa [e2] at q) ⟨rfl,At.refl _ _,by rw [e1];exact hs⟩) fun c z q=>?_)
 rotate_left
 · obtain ⟨rfl,q1,q2⟩:=q
   exact wpS_pure (h z q1 q2)
 rintro k c z k1 k2 ⟨rfl,zA,zS⟩
 have zB:=hB.at' zA
 have zz:lo+k<(arrOf z).size:=by rw [zB.size];omega
 refine wpS_bind (wpS_mono (wpS_forRange (Q:=fun c y=>y=z∧∃l r,c=(none,l,r)∧l≤k∧(∀i,lo≤i→i<lo+l→K (arrOf z) i≤K (arrOf z) (lo+k))∧∀i,lo+l≤i→i<lo+k→K (arrOf z) (lo+k)<K (arrOf z) i)
   (I:=fun x c y=>y=z∧∃l r,c=(none,l,r)∧(l≤r∧r≤k∧r+x≤k+l)∧(∀i,lo≤i→i<lo+l→K (arrOf z) i≤K (arrOf z) (lo+k))∧∀i,lo+r≤i→i<lo+k→K (arrOf z) (lo+k)<K (arrOf z) i)
   ?look (fun c y q=>?_) ⟨rfl,0,k,rfl,⟨by omega,by omega,by omega⟩,fun i _ _=>by omega,fun i _ _=>by omega⟩) fun c y q=>?_)
 rotate_left
 · obtain ⟨rfl,l,r,rfl,b,q1,q2⟩:=q
   obtain rfl:l=r:=by omega
   exact ⟨rfl,l,l,rfl,b.2.1,q1,q2⟩
 · obtain ⟨rfl,l,r,rfl,b,q1,q2⟩:=q
   dsimp only
   rw [moveDown'_eq]
   exact wpS_bind (wpS_modify (wpS_pure ⟨rfl,zA.trans (At.set (Chg.bubble zz (by omega) (by omega))),qq9 zS zz b q1 q2⟩))
 rintro x c y _ _ ⟨rfl,l,r,rfl,b,q1,q2⟩
 dsimp only
 by_cases stop:l≥r
 · obtain rfl:l=r:=by omega
   rw [if_pos stop]
   exact wpS_pure ⟨rfl,l,l,rfl,b.2.1,q1,q2⟩
 rw [if_neg stop]
 refine wpS_bind (cmp h0 zB ⟨by omega,by omega⟩ (fun lt=>?_) fun ge=>?_)
 · exact wpS_pure ⟨rfl,l,_,rfl,⟨by omega,by omega,by omega⟩,q1,fun i i1 i2=>Int.lt_of_lt_of_le lt (zS _ i (by omega) i1 i2)⟩
 · exact wpS_pure ⟨rfl,_,r,rfl,⟨by omega,by omega,by omega⟩,fun i i1 i2=>Int.le_trans (zS i _ i1 (by omega) (by omega)) ge,q2⟩
theorem qoP {xs:Array Keyed} {lo x:Nat} (h:SR xs lo (lo+x)) (hx:1≤x) (hk:K xs (lo+x-1)≤K xs (lo+x)):SR xs lo (lo+(x+1)):=fun i j a b c=>by
 rcases Nat.lt_or_ge j (lo+x) with z | z
 · exact h i j a b z
 · obtain rfl:j=lo+x:=by omega
   rcases Nat.lt_or_ge i (lo+x) with y | y
   · exact Int.le_trans (h i _ a (by omega) (by omega)) hk
   · obtain rfl:i=lo+x:=by omega
     exact Int.le_refl _
theorem qiw {xs:Array Keyed} {lo x:Nat} (h:NR xs lo (lo+x)) (hx:1≤x) (hk:K xs (lo+x)≤K xs (lo+x-1)):NR xs lo (lo+(x+1)):=fun i j a b c=>by
 rcases Nat.lt_or_ge j (lo+x) with z | z
 · exact h i j a b z
 · obtain rfl:j=lo+x:=by omega
   rcases Nat.lt_or_ge i (lo+x) with y | y
   · exact Int.le_trans hk (h i _ a (by omega) (by omega))
   · obtain rfl:i=lo+x:=by omega
     exact Int.le_refl _
theorem NR.congr {xs ys:Array Keyed} {a b:Nat} (h:NR xs a b) (e:∀i,K ys i=K xs i):NR ys a b:=fun i j h1 h2 h3=>by
 rw [e i,e j]
 exact h i j h1 h2 h3
theorem qgE {xs:Array Keyed} {lo n:Nat} (h:NR xs lo (lo+n)) (hz:lo+n≤xs.size):SR (mirror xs lo (lo+n) ((lo+n-lo)/2)) lo (lo+n):=fun i j a b c=>by
 rw [K_mirror hz,K_mirror hz,if_pos ⟨a,by omega⟩,if_pos ⟨by omega,c⟩]
 exact h _ _ (by omega) (by omega) (by omega)
theorem qfD {f:Nat→AscSt→StateT SortSt Sem (ForInStep AscSt)} {lo a m:Nat} {st:SortSt} {Q:AscSt→SortSt→Prop} (ha:1≤a∧a≤m) (hs:SR (arrOf st) lo (lo+a))
   (hf:∀x,a≤x→x<m→∀R:ForInStep AscSt→SortSt→Prop,(K (arrOf st) (lo+x)<K (arrOf st) (lo+x-1)→R (.done (none,x)) st)→(K (arrOf st) (lo+x-1)≤K (arrOf st) (lo+x)→R (.yield (none,x+1)) st)→wpS (model prog w) A E s (f x (none,x)) R st)
   (h:∀n,a≤n→n≤m→SR (arrOf st) lo (lo+n)→(n=m∨K (arrOf st) (lo+n)<K (arrOf st) (lo+n-1))→Q (none,n) st):wpS (model prog w) A E s (forIn [a:m] (none,a) f) Q st:=by
 refine wpS_forRange (I:=fun x c z=>z=st∧c=(none,x)∧SR (arrOf st) lo (lo+x)) (fun x c z x1 x2 q=>?_) (fun c z q=>?_) ⟨rfl,rfl,hs⟩
 · obtain ⟨rfl,rfl,q⟩:=q
   exact hf x x1 x2 _ (fun lt=>h x x1 (by omega) q (.inr lt)) fun ge=>⟨rfl,rfl,qoP q (by omega) ge⟩
 · have e:max a m=m:=by omega
   rw [e] at q
   obtain ⟨rfl,rfl,q⟩:=q
   exact h m ha.2 (Nat.le_refl _) q (.inl rfl)
def qkn (xs:Array Keyed) (lo x neq:Nat):Prop:=neq+1≤x∧∀i,lo+x-(neq+1)≤i→i<lo+x→K xs i=K xs (lo+x-1)
theorem qkn.turn {xs:Array Keyed} {lo x neq:Nat} (h:qkn xs lo x neq) (hz:lo+x≤xs.size) (k:Nat):K (mirror xs (lo+x-(neq+1)) (lo+x) ((lo+x-(lo+x-(neq+1)))/2)) k=K xs k:=K_mirror_equal hz h.2 k
theorem qlR {f:Nat→DescSt→StateT SortSt Sem (ForInStep DescSt)} {lo a m:Nat} {st:SortSt} {Q:DescSt→SortSt→Prop} (ha:1≤a∧a≤m) (hs:NR (arrOf st) lo (lo+a))
   (hf:∀x neq z,a≤x→x<m→At st z lo→qkn (arrOf z) lo x neq→∀R:ForInStep DescSt→SortSt→Prop,
     (K (arrOf z) (lo+x)≤K (arrOf z) (lo+x-1)→∀y,At z y lo→(∀k,K (arrOf y) k=K (arrOf z) k)→R (.yield (none,x+1,0)) y)→R (.done (none,x,neq)) z →
     (K (arrOf z) (lo+x)=K (arrOf z) (lo+x-1)→R (.yield (none,x+1,neq+1)) z)→wpS (model prog w) A E s (f x (none,x,neq)) R z)
   (h:∀n neq z,At st z lo→a≤n→n≤m→NR (arrOf z) lo (lo+n)→qkn (arrOf z) lo n neq→Q (none,n,neq) z):wpS (model prog w) A E s (forIn [a:m] (none,a,0) f) Q st:=by
 have one:∀(xs:Array Keyed) x,1≤x→qkn xs lo x 0:=fun xs x hx=>⟨hx,fun i _ _=>by congr 1;omega⟩
 refine wpS_forRange (I:=fun x c z=>∃neq,c=(none,x,neq)∧At st z lo∧NR (arrOf z) lo (lo+x)∧qkn (arrOf z) lo x neq) (fun x c z x1 x2 q=>?_) (fun c z q=>?_) ⟨0,rfl,At.refl _ _,hs,one _ _ ha.1⟩
 · obtain ⟨neq,rfl,zA,q1,q2⟩:=q
   refine hf x neq z x1 x2 zA q2 _ (fun le y yA e=>⟨0,rfl,zA.trans yA,?_,one _ _ (by omega)⟩) (h x neq z zA x1 (by omega) q1 q2) fun e=>⟨neq+1,rfl,zA,qiw q1 (by omega) (by omega),by have:=q2.1;omega,fun i i1 i2=>?_⟩
   · exact NR.congr (qiw q1 (by omega) le) e
   · rw [show lo+(x+1)-1=lo+x by omega,e]
     rcases Nat.lt_or_ge i (lo+x) with c | c
     · exact q2.2 i (by omega) c
     · rw [show i=lo+x by omega,e]
 · have e:max a m=m:=by omega
   rw [e] at q
   obtain ⟨neq,rfl,zA,q1,q2⟩:=q
   exact h m neq z zA ha.2 (Nat.le_refl _) q1 q2
set_option maxHeartbeats 1000000 in
theorem qqr {st:SortSt} {lo m:Nat} {Q:Option Nat→SortSt→Prop} (h0:IntKeys a₀) (hn:lo+m≤a₀.size) (h1:1≤m) (hB:TB a₀ st)
   (h:∀n z,At st z lo→1≤n→n≤m→SR (arrOf z) lo (lo+n)→Q (some n) z):wpS (model prog w) A E s (countRun' lo m) Q st:=by
 rw [countRun'_eq]
 refine wpS_bind (qfD ⟨Nat.le_refl 1,h1⟩ (SR.one _ _) (fun x x1 x2 R r1 r2=>wpS_bind (cmp h0 hB ⟨by omega,by omega⟩ (fun lt=>wpS_pure (r1 lt)) fun ge=>wpS_pure (r2 ge))) fun n n1 n2 ns ne=>?_)
 dsimp only
 by_cases all:n=m
 · rw [if_pos (by simpa using all)]
   exact wpS_pure (h n st (At.refl _ _) n1 n2 ns)
 rw [if_neg (by simpa using all)]
 have lt:=ne.resolve_left all
 have hz:lo+n≤(arrOf st).size:=by rw [hB.size];omega
 -- where the first items are alike,or one qdX: what falls from there on
 have key:∀z,At st z lo→(∀k,K (arrOf z) k=K (arrOf st) k)→(∀i,lo≤i→i<lo+n→K (arrOf st) i=K (arrOf st) (lo+n-1))→At st z lo∧NR (arrOf z) lo (lo+(n+1)):=fun z zA e q=>by
   refine ⟨zA,NR.congr (qiw (fun i j a b c=>?_) n1 (Int.le_of_lt lt)) e⟩
   rw [q i a (by omega),q j (by omega) c]
   exact Int.le_refl _
 by_cases qmx:n>1
 · rw [if_pos qmx]
   refine wpS_bind (cmp h0 hB ⟨by omega,by omega⟩ (fun _=>wpS_pure (h n st (At.refl _ _) n1 n2 ns)) fun ge=>?_)
   have zA:=At.set (st:=st) (Chg.mirror (lo:=lo) (i:=lo) hz (Nat.le_refl _))
   have al:∀i,lo≤i→i<lo+n→K (arrOf st) i=K (arrOf st) (lo+n-1):=fun i i1 i2=>by
     have a1:=ns lo i (Nat.le_refl _) i1 i2
     have a2:=ns i (lo+n-1) i1 (by omega) (by omega)
     omega
   obtain ⟨zA,zN⟩:=key _ zA (fun k=>K_mirror_equal hz al k) al
   refine wpS_bind (wpS_reverse ?_)
   generalize setArr st (mirror (arrOf st) lo (lo+n) ((lo+n-lo)/2))=z at zA zN
   have zB:=hB.at' zA
   refine wpS_bind (wpS_lift (wpAny_rule ⟨rfl,?_⟩))
   refine wpS_bind (qlR ⟨by omega,by omega⟩ zN (fun x q y x1 x2 yA al R r1 r2 r3=>?_) fun k q y yA k1 k2 kN kq=>?_)
   · have yB:=zB.at' yA
     dsimp only
     refine wpS_bind (cmp h0 yB ⟨by omega,by omega⟩ (fun lt=>?_) fun ge=>wpS_bind (cmp h0 yB ⟨by omega,by omega⟩ (fun _=>wpS_pure r2) fun le=>wpS_pure (r3 (by omega))))
     dsimp only
     by_cases c:q>0
     · rw [if_pos rfl,if_pos c]
       have yz:lo+x≤(arrOf y).size:=by rw [yB.size];omega
       exact wpS_bind (wpS_reverse (wpS_pure (r1 (Int.le_of_lt lt) _ (At.set (Chg.mirror yz (by have:=al.1;omega))) fun k=>al.turn yz k)))
     · rw [if_pos rfl,if_neg c]
       exact wpS_pure (r1 (Int.le_of_lt lt) y (At.refl _ _) fun _=>rfl)
   have yA':=zA.trans yA
   have yB:=hB.at' yA'
   have yz:lo+k≤(arrOf y).size:=by rw [yB.size];omega
   dsimp only
   by_cases c:q>0
   · rw [if_pos c]
     have uA:=yA'.trans (At.set (Chg.mirror (lo:=lo) (i:=lo+k-(q+1)) yz (by have:=kq.1;omega)))
     have uN:=NR.congr kN (fun i=>kq.turn yz i)
     refine wpS_bind (wpS_reverse (wpS_bind (wpS_reverse ?_)))
     have uz:lo+k≤(mirror (arrOf y) (lo+k-(q+1)) (lo+k) ((lo+k-(lo+k-(q+1)))/2)).size:=by rw [mirror_size];exact yz
     have vA:=uA.trans (At.set (Chg.mirror uz (Nat.le_refl _)))
     refine wpS_bind (qfD ⟨by omega,k2⟩ (qgE uN uz) (fun x x1 x2 R r1 r2=>wpS_bind (cmp h0 (hB.at' vA) ⟨by omega,by omega⟩ (fun lt=>wpS_pure (r1 lt)) fun ge=>wpS_pure (r2 ge))) fun t t1 t2 ts _=>?_)
     exact wpS_pure (h t _ vA (by omega) t2 ts)
   · rw [if_neg c]
     refine wpS_bind (wpS_reverse ?_)
     have vA:=yA'.trans (At.set (Chg.mirror yz (Nat.le_refl _)))
     refine wpS_bind (qfD ⟨by omega,k2⟩ (qgE kN yz) (fun x x1 x2 R r1 r2=>wpS_bind (cmp h0 (hB.at' vA) ⟨by omega,by omega⟩ (fun lt=>wpS_pure (r1 lt)) fun ge=>wpS_pure (r2 ge))) fun t t1 t2 ts _=>?_)
     exact wpS_pure (h t _ vA (by omega) t2 ts)
 · rw [if_neg qmx]
   obtain ⟨_,zN⟩:=key st (At.refl _ _) (fun _=>rfl) fun i i1 i2=>by congr 1;omega
   generalize hst:st=z at zN ⊢
   have zA:At st z lo:=hst▸At.refl _ _
   have zB:=hB.at' zA
   refine wpS_bind (wpS_lift (wpAny_rule ⟨rfl,?_⟩))
   refine wpS_bind (qlR ⟨by omega,by omega⟩ zN (fun x q y x1 x2 yA al R r1 r2 r3=>?_) fun k q y yA k1 k2 kN kq=>?_)
   · have yB:=zB.at' yA
     dsimp only
     refine wpS_bind (cmp h0 yB ⟨by omega,by omega⟩ (fun lt=>?_) fun ge=>wpS_bind (cmp h0 yB ⟨by omega,by omega⟩ (fun _=>wpS_pure r2) fun le=>wpS_pure (r3 (by omega))))
     dsimp only
     by_cases c:q>0
     · rw [if_pos rfl,if_pos c]
       have yz:lo+x≤(arrOf y).size:=by rw [yB.size];omega
       exact wpS_bind (wpS_reverse (wpS_pure (r1 (Int.le_of_lt lt) _ (At.set (Chg.mirror yz (by have:=al.1;omega))) fun k=>al.turn yz k)))
     · rw [if_pos rfl,if_neg c]
       exact wpS_pure (r1 (Int.le_of_lt lt) y (At.refl _ _) fun _=>rfl)
   have yA':=zA.trans yA
   have yB:=hB.at' yA'
   have yz:lo+k≤(arrOf y).size:=by rw [yB.size];omega
   dsimp only
   by_cases c:q>0
   · rw [if_pos c]
     have uA:=yA'.trans (At.set (Chg.mirror (lo:=lo) (i:=lo+k-(q+1)) yz (by have:=kq.1;omega)))
     have uN:=NR.congr kN (fun i=>kq.turn yz i)
     refine wpS_bind (wpS_reverse (wpS_bind (wpS_reverse ?_)))
     have uz:lo+k≤(mirror (arrOf y) (lo+k-(q+1)) (lo+k) ((lo+k-(lo+k-(q+1)))/2)).size:=by rw [mirror_size];exact yz
     have vA:=uA.trans (At.set (Chg.mirror uz (Nat.le_refl _)))
     refine wpS_bind (qfD ⟨by omega,k2⟩ (qgE uN uz) (fun x x1 x2 R r1 r2=>wpS_bind (cmp h0 (hB.at' vA) ⟨by omega,by omega⟩ (fun lt=>wpS_pure (r1 lt)) fun ge=>wpS_pure (r2 ge))) fun t t1 t2 ts _=>?_)
     exact wpS_pure (h t _ vA (by omega) t2 ts)
   · rw [if_neg c]
     refine wpS_bind (wpS_reverse ?_)
     have vA:=yA'.trans (At.set (Chg.mirror yz (Nat.le_refl _)))
     refine wpS_bind (qfD ⟨by omega,k2⟩ (qgE kN yz) (fun x x1 x2 R r1 r2=>wpS_bind (cmp h0 (hB.at' vA) ⟨by omega,by omega⟩ (fun lt=>wpS_pure (r1 lt)) fun ge=>wpS_pure (r2 ge))) fun t t1 t2 ts _=>?_)
     exact wpS_pure (h t _ vA (by omega) t2 ts)
end
end Tim
namespace Tim
open PySem PyProof.Rows
def qpt:Bool→Keyed→Array Keyed→Nat→Nat→Nat→StateT SortSt Sem (Option Nat):=sortPriv% PySem.Builtin.gallop
section
variable {prog:Program} {w:World} {A:Around} {E:Value→Shared→Prop} {s:Shared}
theorem qjj {st:SortSt} {x y:Keyed} {Q:Option Bool→SortSt→Prop} (hk:kindOf st=oneType') (hx:∃n t,x.1 = .int n t) (hy:∃n t,y.1 = .int n t) (h:Q (some (decide (numOf x.1<numOf y.1))) st) :
   wpS (model prog w) A E s (lt' x y) Q st:=by
 obtain ⟨n,t,e⟩:=hx
 obtain ⟨m,u,e'⟩:=hy
 rw [lt'_eq]
 refine wpS_bind (wpS_get ?_)
 rw [hk,keyLt'_oneType,e,e']
 rw [e,e'] at h
 refine wpS_bind (wpS_lift (wpAny_attempt (oneLt_int ⟨rfl,?_⟩)))
 exact wpS_pure h
theorem qav {st:SortSt} {arr:Array Keyed} {i:Nat} {Q:Keyed→SortSt→Prop} (hi:i<arr.size) (h:Q arr[i] st):wpS (model prog w) A E s (elem' arr i) Q st:=by
 rw [elem'_eq,getElem?_pos arr i hi]
 exact wpS_pure h
theorem qha {arr:Array Keyed} {i:Nat} (hi:i<arr.size):numOf arr[i].1=K arr i:=by unfold K;rw [getElem?_pos arr i hi]
theorem IntKeys.at {arr:Array Keyed} (h:IntKeys arr) {i:Nat} (hi:i<arr.size):∃n t,arr[i].1 = .int n t:=h _ (by simp)
set_option maxHeartbeats 1000000 in
theorem qby {left:Bool} {key:Keyed} {arr:Array Keyed} {base n hint:Nat} {st:SortSt} {Q:Option Nat→SortSt→Prop} (hk:kindOf st=oneType') (hx:∃n t,key.1 = .int n t) (h0:IntKeys arr) (hn:base+n≤arr.size)
   (hs:SR arr base (base+n)) (hh:hint<n)
   (h:∀k,k≤n→(∀i,base≤i→i<base+k→if left=true then K arr i<numOf key.1 else K arr i≤numOf key.1)→(∀i,base+k≤i→i<base+n→if left=true then numOf key.1≤K arr i else numOf key.1<K arr i)→Q (some k) st) :
   wpS (model prog w) A E s (qpt left key arr base n hint) Q st:=by
 have fin:∀k,k≤n→(∀i,i<k→(if left=true then decide (K arr (base+i)<numOf key.1) else !decide (numOf key.1<K arr (base+i)))=true)→(∀i,k≤i→i<n→(if left=true then decide (K arr (base+i)<numOf key.1) else !decide (numOf key.1<K arr (base+i)))=false)→Q (some k) st:=fun k hk1 h1 h2=>h k hk1 (fun i hi1 hi2=>by
     have q:=h1 (i-base) (by omega)
     rw [show base+(i-base)=i by omega] at q
     cases left with
     | true=>simpa using q
     | false=>simp only [Bool.false_eq_true,if_false,Bool.not_eq_true',decide_eq_false_iff_not] at q ⊢;omega) fun i hi1 hi2=>by
     have q:=h2 (i-base) (by omega) (by omega)
     rw [show base+(i-base)=i by omega] at q
     cases left with
     | true=>simp only [if_true,decide_eq_false_iff_not] at q ⊢;omega
     | false=>simp only [Bool.false_eq_true,if_false,Bool.not_eq_false',decide_eq_true_eq] at q ⊢;omega
 have hm:∀i j,i≤j→j<n→(if left=true then decide (K arr (base+j)<numOf key.1) else !decide (numOf key.1<K arr (base+j)))=true→(if left=true then decide (K arr (base+i)<numOf key.1) else !decide (numOf key.1<K arr (base+i)))=true:=fun i j hij hj hb=>by
   have:=hs (base+i) (base+j) (by omega) (by omega) (by omega)
   cases left with
   | true=>simp only [if_true,decide_eq_true_eq] at hb ⊢;omega
   | false=>simp only [Bool.false_eq_true,if_false,Bool.not_eq_true',decide_eq_false_iff_not] at hb ⊢;omega
 have hb:∀i,i<n→∀R:Option Bool→SortSt→Prop,R (some (if left=true then decide (K arr (base+i)<numOf key.1) else !decide (numOf key.1<K arr (base+i)))) st→wpS (model prog w) A E s (elem' arr (base+i) >>= fun x=>if left=true then lt' x key else lt' key x >>= fun r=>pure (r.map fun b=>!b)) R st:=fun i hi R hR=>by
   refine wpS_bind (qav (by omega) ?_)
   cases left with
   | true =>
     rw [if_pos rfl]
     refine qjj hk (IntKeys.at h0 _) hx ?_
     rw [qha]
     simpa using hR
   | false =>
     rw [if_neg Bool.false_ne_true]
     refine wpS_bind (qjj hk hx (IntKeys.at h0 _) (wpS_pure ?_))
     rw [qha]
     simpa using hR
 revert fin hm hb
 generalize hBB:(fun i=>if left=true then decide (K arr (base+i)<numOf key.1) else !decide (numOf key.1<K arr (base+i)))=B
 have eB:∀i,(if left=true then decide (K arr (base+i)<numOf key.1) else !decide (numOf key.1<K arr (base+i)))=B i:=fun i=>congrFun hBB i
 simp only [eB]
 clear h
 intro h hm hb
 have hf:∀i j,i≤j→j<n→B i=false→B j=false:=fun i j h1 h2 h3=>by
   cases hj:B j with
   | false=>rfl
   | true=>rw [hm i j h1 h2 hj] at h3;cases h3
 refine wpS_bind (hb hint hh _ ?_)
 dsimp only
 cases hB:B hint with
 | true =>
   rw [if_pos rfl]
   refine wpS_bind (wpS_mono (wpS_forRange (I:=fun x c st'=>st'=st∧∃l o,c=(none,l,o)∧l<o∧x<o∧hint+l<n∧B (hint+l)=true)
     (Q:=fun c st'=>st'=st∧∃l o,c=(none,l,o)∧l<o∧hint+l<n∧B (hint+l)=true∧(n-hint≤o∨(hint+o<n∧B (hint+o)=false))) ?step ?fin ⟨rfl,0,1,rfl,by omega,by omega,by omega,hB⟩) ?post)
   case post =>
     rintro c st' ⟨rfl,l,o,rfl,q1,q2,q3,q4⟩
     have hlh:(hint+l+1)≤(hint+min o (n-hint)):=by omega
     have hhn:(hint+min o (n-hint))≤n:=by omega
     have h1:∀i,i<(hint+l+1)→B i=true:=fun i hi=>hm i _ (by omega) q2 q3
     have h2:∀i,(hint+min o (n-hint))≤i→i<n→B i=false:=fun i hi hn=>by
       rcases q4 with z | ⟨z1,z2⟩
       · omega
       · exact hf (hint+o) i (by omega) hn z2
     refine wpS_bind (wpS_mono (wpS_forRange (I:=fun x c st''=>st''=st'∧∃l r,c=(none,l,r)∧l≤r∧r≤n∧r-l≤n-x∧(∀i,i<l→B i=true)∧(∀i,r≤i→i<n→B i=false))
       (Q:=fun c st''=>st''=st'∧∃l,c=(none,l,l)∧l≤n∧(∀i,i<l→B i=true)∧(∀i,l≤i→i<n→B i=false)) ?step2 ?fin2 ⟨rfl,(hint+l+1),(hint+min o (n-hint)),rfl,hlh,hhn,by omega,h1,h2⟩) ?post2)
     case post2 =>
       rintro c st' ⟨rfl,l,rfl,q1,q2,q3⟩
       exact wpS_pure (h l q1 q2 q3)
     case fin2 =>
       rintro c st' ⟨rfl,l,r,rfl,q1,q2,q3,q4,q5⟩
       have:l=r:=by omega
       subst this
       exact ⟨rfl,l,rfl,q2,q4,q5⟩
     case step2 =>
       rintro x c st' _ hx ⟨rfl,l,r,rfl,q1,q2,q3,q4,q5⟩
       dsimp only
       by_cases hge:l≥r
       · rw [if_pos hge]
         have:l=r:=by omega
         subst this
         exact wpS_pure ⟨rfl,l,rfl,q2,q4,q5⟩
       · rw [if_neg hge]
         refine wpS_bind (hb _ (by omega) _ ?_)
         dsimp only
         cases hB:B (l+(r-l)/2) with
         | true =>
           rw [if_pos rfl]
           exact wpS_pure ⟨rfl,_,_,rfl,by omega,by omega,by omega,fun i hi=>hm i _ (by omega) (by omega) hB,q5⟩
         | false =>
           rw [if_neg Bool.false_ne_true]
           refine wpS_pure ⟨rfl,_,_,rfl,by omega,by omega,by omega,q4,fun i hi hn=>?_⟩
           cases hi':B i with
           | false=>rfl
           | true=>rw [hm _ i hi hn hi'] at hB;cases hB
   case fin =>
     rintro c st' ⟨rfl,l,o,rfl,q1,q2,q3,q4⟩
     exact ⟨rfl,l,o,rfl,q1,q3,q4,.inl (by omega)⟩
   case step =>
     rintro x c st' _ hx ⟨rfl,l,o,rfl,q1,q2,q3,q4⟩
     dsimp only
     by_cases hge:o≥n-hint
     · rw [if_pos hge]
       exact wpS_pure ⟨rfl,l,o,rfl,q1,q3,q4,.inl hge⟩
     · rw [if_neg hge]
       refine wpS_bind (hb _ (by omega) _ ?_)
       dsimp only
       cases hB2:B (hint+o) with
       | true=>exact wpS_pure ⟨rfl,_,_,rfl,by omega,by omega,by omega,hB2⟩
       | false=>exact wpS_pure ⟨rfl,l,o,rfl,q1,q3,q4,.inr ⟨by omega,hB2⟩⟩
 | false =>
   rw [if_neg Bool.false_ne_true]
   refine wpS_bind (wpS_mono (wpS_forRange (I:=fun x c st'=>st'=st∧∃l o,c=(none,l,o)∧l<o∧x<o∧l≤hint∧B (hint-l)=false)
     (Q:=fun c st'=>st'=st∧∃l o,c=(none,l,o)∧l<o∧l≤hint∧B (hint-l)=false∧(hint+1≤o∨(o≤hint∧B (hint-o)=true))) ?step ?fin ⟨rfl,0,1,rfl,by omega,by omega,by omega,hB⟩) ?post)
   case post =>
     rintro c st' ⟨rfl,l,o,rfl,q1,q2,q3,q4⟩
     have hlh:(hint+1-min o (hint+1))≤(hint-l):=by omega
     have hhn:(hint-l)≤n:=by omega
     have h1:∀i,i<(hint+1-min o (hint+1))→B i=true:=fun i hi=>by
       rcases q4 with z | ⟨z1,z2⟩
       · omega
       · exact hm i (hint-o) (by omega) (by omega) z2
     have h2:∀i,(hint-l)≤i→i<n→B i=false:=fun i hi hn=>hf (hint-l) i hi hn q3
     refine wpS_bind (wpS_mono (wpS_forRange (I:=fun x c st''=>st''=st'∧∃l r,c=(none,l,r)∧l≤r∧r≤n∧r-l≤n-x∧(∀i,i<l→B i=true)∧(∀i,r≤i→i<n→B i=false))
       (Q:=fun c st''=>st''=st'∧∃l,c=(none,l,l)∧l≤n∧(∀i,i<l→B i=true)∧(∀i,l≤i→i<n→B i=false)) ?step2 ?fin2 ⟨rfl,(hint+1-min o (hint+1)),(hint-l),rfl,hlh,hhn,by omega,h1,h2⟩) ?post2)
     case post2 =>
       rintro c st' ⟨rfl,l,rfl,q1,q2,q3⟩
       exact wpS_pure (h l q1 q2 q3)
     case fin2 =>
       rintro c st' ⟨rfl,l,r,rfl,q1,q2,q3,q4,q5⟩
       have:l=r:=by omega
       subst this
       exact ⟨rfl,l,rfl,q2,q4,q5⟩
     case step2 =>
       rintro x c st' _ hx ⟨rfl,l,r,rfl,q1,q2,q3,q4,q5⟩
       dsimp only
       by_cases hge:l≥r
       · rw [if_pos hge]
         have:l=r:=by omega
         subst this
         exact wpS_pure ⟨rfl,l,rfl,q2,q4,q5⟩
       · rw [if_neg hge]
         refine wpS_bind (hb _ (by omega) _ ?_)
         dsimp only
         cases hB:B (l+(r-l)/2) with
         | true =>
           rw [if_pos rfl]
           exact wpS_pure ⟨rfl,_,_,rfl,by omega,by omega,by omega,fun i hi=>hm i _ (by omega) (by omega) hB,q5⟩
         | false =>
           rw [if_neg Bool.false_ne_true]
           refine wpS_pure ⟨rfl,_,_,rfl,by omega,by omega,by omega,q4,fun i hi hn=>?_⟩
           cases hi':B i with
           | false=>rfl
           | true=>rw [hm _ i hi hn hi'] at hB;cases hB
   case fin =>
     rintro c st' ⟨rfl,l,o,rfl,q1,q2,q3,q4⟩
     exact ⟨rfl,l,o,rfl,q1,q3,q4,.inl (by omega)⟩
   case step =>
     rintro x c st' _ hx ⟨rfl,l,o,rfl,q1,q2,q3,q4⟩
     dsimp only
     by_cases hge:o≥hint+1
     · rw [if_pos hge]
       exact wpS_pure ⟨rfl,l,o,rfl,q1,q3,q4,.inl hge⟩
     · rw [if_neg hge]
       refine wpS_bind (hb _ (by omega) _ ?_)
       dsimp only
       cases hB2:B (hint-o) with
       | true=>exact wpS_pure ⟨rfl,l,o,rfl,q1,q3,q4,.inr ⟨by omega,hB2⟩⟩
       | false=>exact wpS_pure ⟨rfl,_,_,rfl,by omega,by omega,by omega,hB2⟩
end
end Tim
namespace Tim
open PySem PyProof.Rows
def le2 (x y:Keyed):Prop:=numOf x.1≤numOf y.1
def qie (a b r:Array Keyed):Prop:=r.toList.Perm (a.toList++b.toList)∧r.toList.Pairwise le2
theorem qcX {arr:Array Keyed} {x:Keyed} {i:Nat} (h:x∈arr.toList.drop i):∃j,i≤j∧j<arr.size∧numOf x.1=K arr j:=by
 obtain ⟨j,hj,e⟩:=List.getElem_of_mem h
 rw [List.length_drop,Array.length_toList] at hj
 refine ⟨i+j,by omega,by omega,?_⟩
 rw [←qha (by omega),←e,List.getElem_drop,Array.getElem_toList]
theorem qdl {arr:Array Keyed} {x:Keyed} {i k:Nat} (h:x∈(arr.toList.drop i).take k):∃j,i≤j∧j<i+k∧j<arr.size∧numOf x.1=K arr j:=by
 obtain ⟨j,hj,e⟩:=List.getElem_of_mem h
 rw [List.length_take,List.length_drop,Array.length_toList] at hj
 refine ⟨i+j,by omega,by omega,by omega,?_⟩
 rw [←qha (by omega),←e,List.getElem_take,List.getElem_drop,Array.getElem_toList]
theorem qcS {arr:Array Keyed} {x:Keyed} {n:Nat} (h:x∈arr.toList.take n):∃j,j<n∧j<arr.size∧numOf x.1=K arr j:=by
 have h':x∈(arr.toList.drop 0).take n:=by simpa using h
 obtain ⟨j,_,h2,h3,h4⟩:=qdl h'
 exact ⟨j,by omega,h3,h4⟩
theorem qaK {arr:Array Keyed} (h:SR arr 0 arr.size):arr.toList.Pairwise le2:=by
 rw [List.pairwise_iff_getElem]
 intro i j hi hj hij
 have hi':i<arr.size:=by simpa using hi
 have hj':j<arr.size:=by simpa using hj
 have:=h i j (Nat.zero_le _) (Nat.le_of_lt hij) hj'
 rw [←qha hi',←qha hj'] at this
 simpa [le2] using this
theorem qbp (arr:Array Keyed) (i j:Nat):(arr.extract i j).toList=(arr.toList.drop i).take (j-i):=by
 rw [Array.toList_extract,List.extract_eq_drop_take]
theorem qgI (arr:Array Keyed) (i:Nat):(arr.extract i arr.size).toList=arr.toList.drop i:=by
 rw [qbp,←Array.length_toList,←List.length_drop,List.take_length]
theorem qjd (arr:Array Keyed) (i k:Nat):arr.toList.drop i=(arr.toList.drop i).take k++arr.toList.drop (i+k):=by
 rw [←List.drop_drop,List.take_append_drop]
structure MJ (a b out:Array Keyed) (ia ib:Nat):Prop where
 pm:(out.toList++(a.toList.drop ia++b.toList.drop ib)).Perm (a.toList++b.toList)
 so:out.toList.Pairwise le2
 lt:∀x∈out.toList,∀y∈a.toList.drop ia++b.toList.drop ib,le2 x y
section
variable {a b out:Array Keyed} {ia ib:Nat}
theorem MJ.stepA (h:MJ a b out ia ib) (sa:SR a 0 a.size) (k:Nat) (hc:∀i j,ia≤i→i<ia+k→i<a.size→ib≤j→j<b.size→K a i≤K b j):MJ a b (out++a.extract ia (ia+k)) (ia+k) ib:=by
 have e:(out++a.extract ia (ia+k)).toList=out.toList++(a.toList.drop ia).take k:=by rw [Array.toList_append,qbp,show ia+k-ia=k by omega]
 have hp:=h.pm
 have hl:=h.lt
 rw [qjd a ia k] at hp hl
 refine ⟨?_,?_,?_⟩
 · rw [e]
   simpa [List.append_assoc] using hp
 · rw [e]
   refine List.pairwise_append.mpr ⟨h.so,((qaK sa).sublist (List.drop_sublist _ _)).sublist (List.take_sublist _ _),fun x hx y hy=>hl x hx y ?_⟩
   simp only [List.mem_append]
   exact .inl (.inl hy)
 · rw [e]
   intro x hx y hy
   rcases List.mem_append.mp hx with z | z
   · refine hl x z y ?_
     rcases List.mem_append.mp hy with q | q
     · exact List.mem_append_left _ (List.mem_append_right _ q)
     · exact List.mem_append_right _ q
   · obtain ⟨i,i1,i2,i3,i4⟩:=qdl z
     unfold le2
     rw [i4]
     rcases List.mem_append.mp hy with q | q
     · obtain ⟨j,j1,j2,j3⟩:=qcX q
       rw [j3]
       exact sa i j (Nat.zero_le _) (by omega) j2
     · obtain ⟨j,j1,j2,j3⟩:=qcX q
       rw [j3]
       exact hc i j i1 i2 i3 j1 j2
theorem MJ.stepB (h:MJ a b out ia ib) (sb:SR b 0 b.size) (k:Nat) (hc:∀i j,ia≤i→i<a.size→ib≤j→j<ib+k→j<b.size→K b j≤K a i):MJ a b (out++b.extract ib (ib+k)) ia (ib+k):=by
 have e:(out++b.extract ib (ib+k)).toList=out.toList++(b.toList.drop ib).take k:=by rw [Array.toList_append,qbp,show ib+k-ib=k by omega]
 have hp:=h.pm
 have hl:=h.lt
 rw [qjd b ib k] at hp hl
 refine ⟨?_,?_,?_⟩
 · rw [e]
   refine List.Perm.trans ?_ hp
   rw [List.append_assoc]
   refine List.Perm.append_left _ ?_
   rw [←List.append_assoc,←List.append_assoc]
   exact List.Perm.append_right _ List.perm_append_comm
 · rw [e]
   refine List.pairwise_append.mpr ⟨h.so,((qaK sb).sublist (List.drop_sublist _ _)).sublist (List.take_sublist _ _),fun x hx y hy=>hl x hx y ?_⟩
   simp only [List.mem_append]
   exact .inr (.inl hy)
 · rw [e]
   intro x hx y hy
   rcases List.mem_append.mp hx with z | z
   · refine hl x z y ?_
     rcases List.mem_append.mp hy with q | q
     · exact List.mem_append_left _ q
     · exact List.mem_append_right _ (List.mem_append_right _ q)
   · obtain ⟨i,i1,i2,i3,i4⟩:=qdl z
     unfold le2
     rw [i4]
     rcases List.mem_append.mp hy with q | q
     · obtain ⟨j,j1,j2,j3⟩:=qcX q
       rw [j3]
       exact hc j i j1 j2 i1 i2 i3
     · obtain ⟨j,j1,j2,j3⟩:=qcX q
       rw [j3]
       exact sb i j (Nat.zero_le _) (by omega) j2
theorem qlq {arr:Array Keyed} {i:Nat} (h:i<arr.size):out++arr.extract i (i+1)=out.push arr[i]:=by
 apply Array.ext'
 rw [Array.toList_append,qbp,Array.toList_push,show i+1-i=1 by omega]
 congr 1
 rw [List.drop_eq_getElem_cons (by simpa using h)]
 simp
theorem MJ.pushA (h:MJ a b out ia ib) (sa:SR a 0 a.size) (hi:ia<a.size) (hc:∀j,ib≤j→j<b.size→K a ia≤K b j):MJ a b (out.push a[ia]) (ia+1) ib:=by
 rw [←qlq hi]
 refine h.stepA sa 1 fun i j h1 h2 _ h3 h4=>?_
 have:i=ia:=by omega
 subst this
 exact hc j h3 h4
theorem MJ.pushB (h:MJ a b out ia ib) (sb:SR b 0 b.size) (hi:ib<b.size) (hc:∀i,ia≤i→i<a.size→K b ib≤K a i):MJ a b (out.push b[ib]) ia (ib+1):=by
 rw [←qlq hi]
 refine h.stepB sb 1 fun i j h1 h2 h3 h4 _=>?_
 have:j=ib:=by omega
 subst this
 exact hc i h1 h2
theorem MJ.done (h:MJ a b out ia ib) (sa:SR a 0 a.size) (sb:SR b 0 b.size) (he:a.size≤ia∨b.size≤ib):qie a b (out++a.extract ia a.size++b.extract ib b.size):=by
 have e:(out++a.extract ia a.size++b.extract ib b.size).toList=out.toList++(a.toList.drop ia++b.toList.drop ib):=by
   rw [Array.toList_append,Array.toList_append,qgI,qgI,List.append_assoc]
 refine ⟨by rw [e];exact h.pm,?_⟩
 rw [e]
 refine List.pairwise_append.mpr ⟨h.so,?_,h.lt⟩
 rcases he with z | z
 · rw [List.drop_eq_nil_of_le (by simpa using z),List.nil_append]
   exact (qaK sb).sublist (List.drop_sublist _ _)
 · rw [List.drop_eq_nil_of_le (as:=b.toList) (by simpa using z),List.append_nil]
   exact (qaK sa).sublist (List.drop_sublist _ _)
theorem MJ.last (h:MJ a b out ia ib) (sa:SR a 0 a.size) (sb:SR b 0 b.size) (hc:∀i j,ia≤i→i<a.size→ib≤j→j<b.size→K b j≤K a i):qie a b (out++b.extract ib b.size++a.extract ia a.size):=by
 have e:(out++b.extract ib b.size++a.extract ia a.size).toList=out.toList++(b.toList.drop ib++a.toList.drop ia):=by
   rw [Array.toList_append,Array.toList_append,qgI,qgI,List.append_assoc]
 have pc:(b.toList.drop ib++a.toList.drop ia).Perm (a.toList.drop ia++b.toList.drop ib):=List.perm_append_comm
 refine ⟨by rw [e];exact (List.Perm.append_left _ pc).trans h.pm,?_⟩
 rw [e]
 refine List.pairwise_append.mpr ⟨h.so,List.pairwise_append.mpr ⟨(qaK sb).sublist (List.drop_sublist _ _),(qaK sa).sublist (List.drop_sublist _ _),fun x hx y hy=>?_⟩,fun x hx y hy=>h.lt x hx y (pc.mem_iff.mp hy)⟩
 obtain ⟨j,j1,j2,j3⟩:=qcX hx
 obtain ⟨i,i1,i2,i3⟩:=qcX hy
 unfold le2
 rw [j3,i3]
 exact hc i j i1 i2 j1 j2
theorem MJ.start (sb:SR b 0 b.size) (hb:0<b.size) (hc:∀i,i<a.size→K b 0≤K a i):MJ a b #[b[0]] 0 1:=by
 have h:MJ a b #[] 0 0:=⟨by simp,List.Pairwise.nil,fun x hx=>by simp at hx⟩
 exact h.pushB sb hb fun i _ hi=>hc i hi
end
def qrK:Nat→StateT SortSt Sem Unit:=sortPriv% PySem.Builtin.setMinGallop
abbrev qbW (st:SortSt) (g:Nat):SortSt:=SortSt.mk' (kindOf st) (arrOf st) (pendingOf st) g (failedOf st)
theorem qgY {M:Model} {A:Around} {E:Value→Shared→Prop} {s:Shared} {g:Nat} {st:SortSt} {Q:Unit→SortSt→Prop} (h:Q () (qbW st g)):wpS M A E s (qrK g) Q st:=wpS_modify h
def qnr:Array Keyed→Array Keyed→StateT SortSt Sem (Array Keyed):=sortPriv% PySem.Builtin.mergeLo
section
variable {prog:Program} {w:World} {A:Around} {E:Value→Shared→Prop} {s:Shared}
set_option maxHeartbeats 4000000 in
theorem qi1 {a b:Array Keyed} {st:SortSt} {Q:Array Keyed→SortSt→Prop} (hk:kindOf st=oneType') (ka:IntKeys a) (kb:IntKeys b) (sa:SR a 0 a.size) (sb:SR b 0 b.size) (ha:0<a.size) (hb:0<b.size)
   (hf:∀i,i<a.size→K b 0≤K a i) (hl:∀j,j<b.size→K b j≤K a (a.size-1)) (h:∀r g,qie a b r→Q r (qbW st g)):wpS (model prog w) A E s (qnr a b) Q st:=by
 refine wpS_bind (wpS_lift (wpAny_rule ⟨rfl,?_⟩))
 refine wpS_bind (qav hb ?_)
 dsimp only
 have J0:=MJ.start (a:=a) sb hb hf
 have lastA:∀{out ia ib},MJ a b out ia ib→ia+1=a.size→qie a b (out++b.extract ib b.size++a.extract ia a.size):=fun {out ia ib} J e=>J.last sa sb fun i j h1 h2 _ h3=>by
   have:i=a.size-1:=by omega
   subst this
   exact hl j h3
 by_cases c1:1=b.size
 · rw [if_pos (by simpa using c1)]
   exact wpS_pure (h _ (gallopOf st) (J0.done sa sb (.inr (by omega))))
 rw [if_neg (by simpa using c1)]
 by_cases c2:0+1=a.size
 · rw [if_pos (by simpa using c2)]
   exact wpS_pure (h _ (gallopOf st) (lastA J0 (by omega)))
 rw [if_neg (by simpa using c2)]
 refine wpS_bind (wpS_get ?_)
 refine wpS_bind (wpS_mono (wpS_forRange (I:=fun x c st'=>∃g out ia ib mg,st'=qbW st g∧c=(none,out,ia,ib,mg)∧MJ a b out ia ib∧ia+1<a.size∧ib<b.size∧x≤ia+ib)
   (Q:=fun c st'=>∃g r t,st'=qbW st g∧c=(some r,t)∧qie a b r) ?step ?fin ⟨gallopOf st,#[b[0]],0,1,_,rfl,rfl,J0,by omega,by omega,by omega⟩) ?post)
 case post =>
   rintro c st' ⟨g,r,t,rfl,rfl,hr⟩
   exact wpS_pure (h r g hr)
 case fin =>
   rintro c st' ⟨g,out,ia,ib,mg,_,_,_,h1,h2,h3⟩
   omega
 case step =>
   rintro x c st' _ hx ⟨g,out,ia,ib,mg,rfl,rfl,J,h1,h2,h3⟩
   dsimp only
   refine wpS_bind (wpS_mono (wpS_forRange (I:=fun y c st'=>∃out ia ib ac bc,st'=qbW st g∧c=(none,out,ia,ib,ac,bc)∧MJ a b out ia ib∧ia+1<a.size∧ib<b.size∧x+y≤ia+ib)
     (Q:=fun c st'=>st'=qbW st g∧((∃r t,c=(some r,t)∧qie a b r)∨∃out ia ib ac bc,c=(none,out,ia,ib,ac,bc)∧MJ a b out ia ib∧ia+1<a.size∧ib<b.size∧x+1≤ia+ib)) ?step1 ?fin1 ⟨out,ia,ib,0,0,rfl,rfl,J,h1,h2,h3⟩) ?post1)
   case fin1 =>
     rintro c st' ⟨out,ia,ib,ac,bc,rfl,rfl,J,h1,h2,h3⟩
     exact ⟨rfl,.inr ⟨out,ia,ib,ac,bc,rfl,J,h1,h2,by omega⟩⟩
   case step1 =>
     clear J h1 h2 h3
     rintro y c st' _ hy ⟨out,ia,ib,ac,bc,rfl,rfl,J,h1,h2,h3⟩
     dsimp only
     refine wpS_bind (qav h2 (wpS_bind (qav (show ia<a.size by omega) (wpS_bind (qjj hk (IntKeys.at kb h2) (IntKeys.at ka (by omega)) ?_)))))
     rw [qha h2,qha (show ia<a.size by omega)]
     dsimp only
     by_cases hw:K b ib<K a ia
     · rw [if_pos (by simpa using hw)]
       refine wpS_bind (qav h2 ?_)
       have J2:=J.pushB sb h2 fun i i1 i2=>Int.le_trans (Int.le_of_lt hw) (sa ia i (Nat.zero_le _) i1 i2)
       split
       · rename_i e
         have e:ib+1=b.size:=by simpa using e
         exact wpS_pure ⟨rfl,.inl ⟨_,_,rfl,J2.done sa sb (.inr (by omega))⟩⟩
       · rename_i e
         have e:¬ib+1=b.size:=by simpa using e
         split
         · exact wpS_pure ⟨rfl,.inr ⟨_,_,_,_,_,rfl,J2,h1,by omega,by omega⟩⟩
         · exact wpS_pure ⟨_,_,_,_,_,rfl,rfl,J2,h1,by omega,by omega⟩
     · rw [if_neg (by simpa using hw)]
       have h1':ia<a.size:=by omega
       refine wpS_bind (qav h1' ?_)
       have J2:=J.pushA sa h1' fun j j1 j2=>Int.le_trans (Int.not_lt.mp hw) (sb ib j (Nat.zero_le _) j1 j2)
       split
       · rename_i e
         have e:ia+1+1=a.size:=by simpa using e
         exact wpS_pure ⟨rfl,.inl ⟨_,_,rfl,lastA J2 e⟩⟩
       · rename_i e
         have e:¬ia+1+1=a.size:=by simpa using e
         split
         · exact wpS_pure ⟨rfl,.inr ⟨_,_,_,_,_,rfl,J2,by omega,h2,by omega⟩⟩
         · exact wpS_pure ⟨_,_,_,_,_,rfl,rfl,J2,by omega,h2,by omega⟩
   case post1 =>
     clear J h1 h2 h3
     rintro c st' ⟨rfl,⟨r,t,rfl,hr⟩ | ⟨out,ia,ib,ac,bc,rfl,J,h1,h2,h3⟩⟩
     · exact wpS_pure ⟨g,r,_,rfl,rfl,hr⟩
     dsimp only
     refine wpS_bind (wpS_lift (wpAny_rule ⟨rfl,?_⟩))
     refine wpS_bind (wpS_mono (wpS_forRange (I:=fun y c st'=>∃g out ia ib mg ac bc,st'=qbW st g∧c=(none,out,ia,ib,mg,ac,bc)∧MJ a b out ia ib∧ia+1<a.size∧ib<b.size∧x+1≤ia+ib)
       (Q:=fun c st'=>∃g,st'=qbW st g∧((∃r t,c=(some r,t)∧qie a b r)∨∃out ia ib mg ac bc,c=(none,out,ia,ib,mg,ac,bc)∧MJ a b out ia ib∧ia+1<a.size∧ib<b.size∧x+1≤ia+ib)) ?step2 ?fin2 ⟨g,out,ia,ib,_,ac,bc,rfl,rfl,J,h1,h2,h3⟩) ?post2)
     case fin2 =>
       rintro c st' ⟨g,out,ia,ib,mg,ac,bc,rfl,rfl,J,h1,h2,h3⟩
       exact ⟨g,rfl,.inr ⟨out,ia,ib,mg,ac,bc,rfl,J,h1,h2,h3⟩⟩
     case post2 =>
       clear J h1 h2 h3
       rintro c st' ⟨g,rfl,⟨r,t,rfl,hr⟩ | ⟨out,ia,ib,mg,ac,bc,rfl,J,h1,h2,h3⟩⟩
       · exact wpS_pure ⟨g,r,_,rfl,rfl,hr⟩
       dsimp only
       exact wpS_bind (qgY (wpS_pure ⟨_,out,ia,ib,_,rfl,rfl,J,h1,h2,by omega⟩))
     case step2 =>
       clear J h1 h2 h3
       rintro y c st' _ hy ⟨g,out,ia,ib,mg,ac,bc,rfl,rfl,J,h1,h2,h3⟩
       dsimp only
       by_cases hg:mg>1
       all_goals first | rw [if_pos hg] | rw [if_neg hg]
       all_goals
         refine wpS_bind (qgY ?_)
         refine wpS_bind (qav h2 ?_)
         refine wpS_bind (qby hk (IntKeys.at kb h2) ka (by omega) (fun i j i1 i2 i3=>sa i j (Nat.zero_le _) i2 (by omega)) (by omega) fun k k1 k2 k3=>?_)
         dsimp only
         simp only [Bool.false_eq_true,if_false,qha h2] at k2 k3
         have JA:=J.stepA sa k fun i j i1 i2 i3 j1 j2=>Int.le_trans (k2 i i1 i2) (sb ib j (Nat.zero_le _) j1 j2)
         have nl:∀i,ia+k≤i→i<a.size→K b ib≤K a i:=fun i i1 i2=>Int.le_of_lt (k3 i i1 (by omega))
         have tail:∀out' ia',MJ a b out' ia' ib→ia'+1<a.size→x+1≤ia'+ib→(∀i,ia'≤i→i<a.size→K b ib≤K a i)→True:=fun _ _ _ _ _ _=>trivial
         by_cases hk0:k>0
         · rw [if_pos hk0]
           by_cases e1:ia+k+1=a.size
           · rw [if_pos (show (ia+k+1==a.size)=true by simpa using e1)]
             have e:=e1
             exact wpS_pure ⟨_,rfl,.inl ⟨_,_,rfl,lastA JA e⟩⟩
           rw [if_neg (show ¬(ia+k+1==a.size)=true by simpa using e1)]
           by_cases e2:ia+k=a.size
           · rw [if_pos (show (ia+k==a.size)=true by simpa using e2)]
             have e:=e2
             exact wpS_pure ⟨_,rfl,.inl ⟨_,_,rfl,JA.done sa sb (.inl (by omega))⟩⟩
           rw [if_neg (show ¬(ia+k==a.size)=true by simpa using e2)]
           have h1':ia+k+1<a.size:=by omega
           have h3':x+1≤ia+k+ib:=by omega
           clear J h1 h3 k1 k2 k3 e1 e2 hk0
           revert JA h1' h3' nl
           generalize out++a.extract ia (ia+k)=out
           generalize ia+k=ia
           intro J nl h1 h3
           refine wpS_bind (qav h2 ?_)
           have J2:=J.pushB sb h2 nl
           by_cases e:ib+1=b.size
           · rw [if_pos (show (ib+1==b.size)=true by simpa using e)]
             exact wpS_pure ⟨_,rfl,.inl ⟨_,_,rfl,J2.done sa sb (.inr (by omega))⟩⟩
           rw [if_neg (show ¬(ib+1==b.size)=true by simpa using e)]
           have h1':ia<a.size:=by omega
           refine wpS_bind (qav h1' ?_)
           refine wpS_bind (qby hk (IntKeys.at ka h1') kb (by omega) (fun i j i1 i2 i3=>sb i j (Nat.zero_le _) i2 (by omega)) (by omega) fun m m1 m2 m3=>?_)
           dsimp only
           simp only [if_true,qha h1'] at m2 m3
           have JB:=J2.stepB sb m fun i j i1 i2 j1 j2 j3=>Int.le_trans (Int.le_of_lt (m2 j j1 j2)) (sa ia i (Nat.zero_le _) i1 i2)
           have nr:∀j,ib+1+m≤j→j<b.size→K a ia≤K b j:=fun j j1 j2=>m3 j j1 (by omega)
           by_cases hm0:m>0
           · rw [if_pos hm0]
             by_cases e3:ib+1+m=b.size
             · rw [if_pos (show (ib+1+m==b.size)=true by simpa using e3)]
               exact wpS_pure ⟨_,rfl,.inl ⟨_,_,rfl,JB.done sa sb (.inr (by omega))⟩⟩
             rw [if_neg (show ¬(ib+1+m==b.size)=true by simpa using e3)]
             refine wpS_bind (qav h1' ?_)
             have J3:=JB.pushA sa h1' nr
             split
             · rename_i e4
               have e4:ia+1+1=a.size:=by simpa using e4
               exact wpS_pure ⟨_,rfl,.inl ⟨_,_,rfl,lastA J3 e4⟩⟩
             rename_i e4
             have e4:¬ia+1+1=a.size:=by simpa using e4
             split
             · exact wpS_pure ⟨_,rfl,.inr ⟨_,_,_,_,_,_,rfl,J3,by omega,by omega,by omega⟩⟩
             · exact wpS_pure ⟨_,_,_,_,_,_,_,rfl,rfl,J3,by omega,by omega,by omega⟩
           · rw [if_neg hm0]
             have e0:m=0:=by omega
             subst e0
             rw [Nat.add_zero] at nr
             refine wpS_bind (qav h1' ?_)
             have J3:=J2.pushA sa h1' nr
             split
             · rename_i e4
               have e4:ia+1+1=a.size:=by simpa using e4
               exact wpS_pure ⟨_,rfl,.inl ⟨_,_,rfl,lastA J3 e4⟩⟩
             rename_i e4
             have e4:¬ia+1+1=a.size:=by simpa using e4
             split
             · exact wpS_pure ⟨_,rfl,.inr ⟨_,_,_,_,_,_,rfl,J3,by omega,by omega,by omega⟩⟩
             · exact wpS_pure ⟨_,_,_,_,_,_,_,rfl,rfl,J3,by omega,by omega,by omega⟩
         · rw [if_neg hk0]
           have e0:k=0:=by omega
           subst e0
           clear JA k1 k2 k3 hk0
           rw [Nat.add_zero] at nl
           refine wpS_bind (qav h2 ?_)
           have J2:=J.pushB sb h2 nl
           by_cases e:ib+1=b.size
           · rw [if_pos (show (ib+1==b.size)=true by simpa using e)]
             exact wpS_pure ⟨_,rfl,.inl ⟨_,_,rfl,J2.done sa sb (.inr (by omega))⟩⟩
           rw [if_neg (show ¬(ib+1==b.size)=true by simpa using e)]
           have h1':ia<a.size:=by omega
           refine wpS_bind (qav h1' ?_)
           refine wpS_bind (qby hk (IntKeys.at ka h1') kb (by omega) (fun i j i1 i2 i3=>sb i j (Nat.zero_le _) i2 (by omega)) (by omega) fun m m1 m2 m3=>?_)
           dsimp only
           simp only [if_true,qha h1'] at m2 m3
           have JB:=J2.stepB sb m fun i j i1 i2 j1 j2 j3=>Int.le_trans (Int.le_of_lt (m2 j j1 j2)) (sa ia i (Nat.zero_le _) i1 i2)
           have nr:∀j,ib+1+m≤j→j<b.size→K a ia≤K b j:=fun j j1 j2=>m3 j j1 (by omega)
           by_cases hm0:m>0
           · rw [if_pos hm0]
             by_cases e3:ib+1+m=b.size
             · rw [if_pos (show (ib+1+m==b.size)=true by simpa using e3)]
               exact wpS_pure ⟨_,rfl,.inl ⟨_,_,rfl,JB.done sa sb (.inr (by omega))⟩⟩
             rw [if_neg (show ¬(ib+1+m==b.size)=true by simpa using e3)]
             refine wpS_bind (qav h1' ?_)
             have J3:=JB.pushA sa h1' nr
             split
             · rename_i e4
               have e4:ia+1+1=a.size:=by simpa using e4
               exact wpS_pure ⟨_,rfl,.inl ⟨_,_,rfl,lastA J3 e4⟩⟩
             rename_i e4
             have e4:¬ia+1+1=a.size:=by simpa using e4
             split
             · exact wpS_pure ⟨_,rfl,.inr ⟨_,_,_,_,_,_,rfl,J3,by omega,by omega,by omega⟩⟩
             · exact wpS_pure ⟨_,_,_,_,_,_,_,rfl,rfl,J3,by omega,by omega,by omega⟩
           · rw [if_neg hm0]
             have e0:m=0:=by omega
             subst e0
             rw [Nat.add_zero] at nr
             refine wpS_bind (qav h1' ?_)
             have J3:=J2.pushA sa h1' nr
             split
             · rename_i e4
               have e4:ia+1+1=a.size:=by simpa using e4
               exact wpS_pure ⟨_,rfl,.inl ⟨_,_,rfl,lastA J3 e4⟩⟩
             rename_i e4
             have e4:¬ia+1+1=a.size:=by simpa using e4
             split
             · exact wpS_pure ⟨_,rfl,.inr ⟨_,_,_,_,_,_,rfl,J3,by omega,by omega,by omega⟩⟩
             · exact wpS_pure ⟨_,_,_,_,_,_,_,rfl,rfl,J3,by omega,by omega,by omega⟩
end
end Tim
namespace Tim
open PySem PyProof.Rows
structure MH (a b out:Array Keyed) (na nb:Nat):Prop where
 pm:(a.toList.take na++b.toList.take nb++out.toList.reverse).Perm (a.toList++b.toList)
 so:out.toList.reverse.Pairwise le2
 lt:∀x∈a.toList.take na++b.toList.take nb,∀y∈out.toList,le2 x y
section
variable {a b out:Array Keyed} {na nb:Nat}
theorem qjs (arr:Array Keyed) {i n:Nat} (h:i≤n):arr.toList.take n=arr.toList.take i++(arr.toList.drop i).take (n-i):=by
 have:=List.take_append_drop i (arr.toList.take n)
 rw [List.take_take,List.drop_take,Nat.min_eq_left h] at this
 exact this.symm
theorem qfc (arr:Array Keyed) (i n:Nat):(out++(arr.extract i n).reverse).toList.reverse=(arr.toList.drop i).take (n-i)++out.toList.reverse:=by
 rw [Array.toList_append,Array.toList_reverse,List.reverse_append,List.reverse_reverse,qbp]
theorem qlX {arr:Array Keyed} {i n:Nat} {y:Keyed} (h:y∈(out++(arr.extract i n).reverse).toList):y∈(arr.toList.drop i).take (n-i)∨y∈out.toList:=by
 have:=List.mem_reverse.mpr h
 rw [qfc] at this
 rcases List.mem_append.mp this with z | z
 · exact .inl z
 · exact .inr (List.mem_reverse.mp z)
theorem MH.stepA (h:MH a b out na nb) (sa:SR a 0 a.size) {i:Nat} (hi:i≤na) (hc:∀x j,i≤x→x<na→x<a.size→j<nb→j<b.size→K b j≤K a x):MH a b (out++(a.extract i na).reverse) i nb:=by
 have hp:=h.pm
 have hl:=h.lt
 rw [qjs a hi] at hp hl
 refine ⟨?_,?_,?_⟩
 · rw [qfc]
   refine List.Perm.trans ?_ hp
   rw [←List.append_assoc]
   refine List.Perm.append_right _ ?_
   rw [List.append_assoc,List.append_assoc]
   exact List.Perm.append_left _ List.perm_append_comm
 · rw [qfc]
   refine List.pairwise_append.mpr ⟨((qaK sa).sublist (List.drop_sublist _ _)).sublist (List.take_sublist _ _),h.so,fun x hx y hy=>hl x ?_ y (List.mem_reverse.mp hy)⟩
   simp only [List.mem_append]
   exact .inl (.inr hx)
 · intro x hx y hy
   rcases qlX hy with q | q
   · obtain ⟨j,j1,j2,j3,j4⟩:=qdl q
     unfold le2
     rw [j4]
     rcases List.mem_append.mp hx with z | z
     · obtain ⟨k,k1,k2,k3⟩:=qcS z
       rw [k3]
       exact sa k j (Nat.zero_le _) (by omega) j3
     · obtain ⟨k,k1,k2,k3⟩:=qcS z
       rw [k3]
       exact hc j k j1 (by omega) j3 k1 k2
   · refine hl x ?_ y q
     rcases List.mem_append.mp hx with z | z
     · exact List.mem_append_left _ (List.mem_append_left _ z)
     · exact List.mem_append_right _ z
theorem MH.stepB (h:MH a b out na nb) (sb:SR b 0 b.size) {i:Nat} (hi:i≤nb) (hc:∀x j,x<na→x<a.size→i≤j→j<nb→j<b.size→K a x≤K b j):MH a b (out++(b.extract i nb).reverse) na i:=by
 have hp:=h.pm
 have hl:=h.lt
 rw [qjs b hi] at hp hl
 refine ⟨?_,?_,?_⟩
 · rw [qfc]
   refine List.Perm.trans ?_ hp
   rw [←List.append_assoc,←List.append_assoc]
 · rw [qfc]
   refine List.pairwise_append.mpr ⟨((qaK sb).sublist (List.drop_sublist _ _)).sublist (List.take_sublist _ _),h.so,fun x hx y hy=>hl x ?_ y (List.mem_reverse.mp hy)⟩
   simp only [List.mem_append]
   exact .inr (.inr hx)
 · intro x hx y hy
   rcases qlX hy with q | q
   · obtain ⟨j,j1,j2,j3,j4⟩:=qdl q
     unfold le2
     rw [j4]
     rcases List.mem_append.mp hx with z | z
     · obtain ⟨k,k1,k2,k3⟩:=qcS z
       rw [k3]
       exact hc k j k1 k2 j1 (by omega) j3
     · obtain ⟨k,k1,k2,k3⟩:=qcS z
       rw [k3]
       exact sb k j (Nat.zero_le _) (by omega) j3
   · refine hl x ?_ y q
     rcases List.mem_append.mp hx with z | z
     · exact List.mem_append_left _ z
     · exact List.mem_append_right _ (List.mem_append_left _ z)
theorem qmq {arr:Array Keyed} {i:Nat} (h:i<arr.size):out++(arr.extract i (i+1)).reverse=out.push arr[i]:=by
 apply Array.ext'
 rw [Array.toList_append,Array.toList_reverse,qbp,Array.toList_push,show i+1-i=1 by omega]
 congr 1
 rw [List.drop_eq_getElem_cons (by simpa using h)]
 simp
theorem MH.pushA (h:MH a b out na nb) (sa:SR a 0 a.size) (h0:0<na) (hi:na-1<a.size) (hc:∀j,j<nb→j<b.size→K b j≤K a (na-1)):MH a b (out.push a[na-1]) (na-1) nb:=by
 rw [←qmq hi]
 have:=h.stepA sa (i:=na-1) (by omega) fun x j h1 h2 _ h3 h4=>by
   have:x=na-1:=by omega
   subst this
   exact hc j h3 h4
 rwa [show na-1+1=na by omega]
theorem MH.pushB (h:MH a b out na nb) (sb:SR b 0 b.size) (h0:0<nb) (hi:nb-1<b.size) (hc:∀x,x<na→x<a.size→K a x≤K b (nb-1)):MH a b (out.push b[nb-1]) na (nb-1):=by
 rw [←qmq hi]
 have:=h.stepB sb (i:=nb-1) (by omega) fun x j h1 h2 h3 h4 _=>by
   have:j=nb-1:=by omega
   subst this
   exact hc x h1 h2
 rwa [show nb-1+1=nb by omega]
theorem qeK (arr:Array Keyed) (n:Nat):(arr.extract 0 n).toList=arr.toList.take n:=by
 rw [qbp,List.drop_zero,Nat.sub_zero]
theorem MH.done (h:MH a b out na nb) (sa:SR a 0 a.size) (sb:SR b 0 b.size) (he:na=0∨nb=0):qie a b (a.extract 0 na++b.extract 0 nb++out.reverse):=by
 have e:(a.extract 0 na++b.extract 0 nb++out.reverse).toList=a.toList.take na++b.toList.take nb++out.toList.reverse:=by
   rw [Array.toList_append,Array.toList_append,qeK,qeK,Array.toList_reverse]
 refine ⟨by rw [e];exact h.pm,?_⟩
 rw [e]
 refine List.pairwise_append.mpr ⟨?_,h.so,fun x hx y hy=>h.lt x hx y (List.mem_reverse.mp hy)⟩
 rcases he with z | z
 · subst z
   rw [List.take_zero,List.nil_append]
   exact (qaK sb).sublist (List.take_sublist _ _)
 · subst z
   rw [List.take_zero,List.append_nil]
   exact (qaK sa).sublist (List.take_sublist _ _)
theorem MH.first (h:MH a b out na nb) (sa:SR a 0 a.size) (sb:SR b 0 b.size) (hc:∀i j,i<na→i<a.size→j<nb→j<b.size→K b j≤K a i):qie a b (b.extract 0 nb++a.extract 0 na++out.reverse):=by
 have e:(b.extract 0 nb++a.extract 0 na++out.reverse).toList=b.toList.take nb++a.toList.take na++out.toList.reverse:=by
   rw [Array.toList_append,Array.toList_append,qeK,qeK,Array.toList_reverse]
 have pc:(b.toList.take nb++a.toList.take na).Perm (a.toList.take na++b.toList.take nb):=List.perm_append_comm
 refine ⟨by rw [e];exact (List.Perm.append_right _ pc).trans h.pm,?_⟩
 rw [e]
 refine List.pairwise_append.mpr ⟨List.pairwise_append.mpr ⟨(qaK sb).sublist (List.take_sublist _ _),(qaK sa).sublist (List.take_sublist _ _),fun x hx y hy=>?_⟩,h.so,fun x hx y hy=>h.lt x (pc.mem_iff.mp hx) y (List.mem_reverse.mp hy)⟩
 obtain ⟨j,j1,j2,j3⟩:=qcS hx
 obtain ⟨i,i1,i2,i3⟩:=qcS hy
 unfold le2
 rw [j3,i3]
 exact hc i j i1 i2 j1 j2
theorem MH.start (sa:SR a 0 a.size) (ha:a.size-1<a.size) (hc:∀j,j<b.size→K b j≤K a (a.size-1)):MH a b #[a[a.size-1]] (a.size-1) b.size:=by
 have h:MH a b #[] a.size b.size:=⟨by
   have e1:a.toList.take a.size=a.toList:=List.take_of_length_le (by simp)
   have e2:b.toList.take b.size=b.toList:=List.take_of_length_le (by simp)
   rw [e1,e2]
   simp,List.Pairwise.nil,fun x _ y hy=>by simp at hy⟩
 exact h.pushA sa (by omega) ha fun j _ hj=>hc j hj
end
def qnF:Array Keyed→Array Keyed→StateT SortSt Sem (Array Keyed):=sortPriv% PySem.Builtin.mergeHi
section
variable {prog:Program} {w:World} {A:Around} {E:Value→Shared→Prop} {s:Shared}
set_option maxHeartbeats 4000000 in
theorem qiL {a b:Array Keyed} {st:SortSt} {Q:Array Keyed→SortSt→Prop} (hk:kindOf st=oneType') (ka:IntKeys a) (kb:IntKeys b) (sa:SR a 0 a.size) (sb:SR b 0 b.size) (ha:0<a.size) (hb:0<b.size)
   (hf:∀i,i<a.size→K b 0≤K a i) (hl:∀j,j<b.size→K b j≤K a (a.size-1)) (h:∀r g,qie a b r→Q r (qbW st g)):wpS (model prog w) A E s (qnF a b) Q st:=by
 refine wpS_bind (wpS_lift (wpAny_rule ⟨rfl,?_⟩))
 have ha1:a.size-1<a.size:=by omega
 refine wpS_bind (qav ha1 ?_)
 dsimp only
 have J0:=MH.start (b:=b) sa ha1 hl
 have firstB:∀{out na nb},MH a b out na nb→nb=1→qie a b (b.extract 0 nb++a.extract 0 na++out.reverse):=fun {out na nb} J e=>J.first sa sb fun i j h1 h2 h3 h4=>by
   have:j=0:=by omega
   subst this
   exact hf i h2
 by_cases c1:a.size-1=0
 · rw [if_pos (by simpa using c1)]
   exact wpS_pure (h _ (gallopOf st) (J0.done sa sb (.inl c1)))
 rw [if_neg (by simpa using c1)]
 by_cases c2:b.size=1
 · rw [if_pos (by simpa using c2)]
   exact wpS_pure (h _ (gallopOf st) (firstB J0 c2))
 rw [if_neg (by simpa using c2)]
 refine wpS_bind (wpS_get ?_)
 refine wpS_bind (wpS_mono (wpS_forRange (I:=fun x c st'=>∃g out na nb mg,st'=qbW st g∧c=(none,na,nb,out,mg)∧MH a b out na nb∧0<na∧1<nb∧na≤a.size∧nb≤b.size∧x+(na+nb)≤a.size+b.size)
   (Q:=fun c st'=>∃g r t,st'=qbW st g∧c=(some r,t)∧qie a b r) ?step ?fin ⟨gallopOf st,#[a[a.size-1]],a.size-1,b.size,_,rfl,rfl,J0,by omega,by omega,by omega,by omega,by omega⟩) ?post)
 case post =>
   rintro c st' ⟨g,r,t,rfl,rfl,hr⟩
   exact wpS_pure (h r g hr)
 case fin =>
   rintro c st' ⟨g,out,na,nb,mg,_,_,_,h1,h2,_,_,h3⟩
   omega
 case step =>
   rintro x c st' _ hx ⟨g,out,na,nb,mg,rfl,rfl,J,h1,h2,h5,h6,h3⟩
   dsimp only
   refine wpS_bind (wpS_mono (wpS_forRange (I:=fun y c st'=>∃out na nb ac bc,st'=qbW st g∧c=(none,na,nb,out,ac,bc)∧MH a b out na nb∧0<na∧1<nb∧na≤a.size∧nb≤b.size∧x+y+(na+nb)≤a.size+b.size)
     (Q:=fun c st'=>st'=qbW st g∧((∃r t,c=(some r,t)∧qie a b r)∨∃out na nb ac bc,c=(none,na,nb,out,ac,bc)∧MH a b out na nb∧0<na∧1<nb∧na≤a.size∧nb≤b.size∧x+1+(na+nb)≤a.size+b.size)) ?step1 ?fin1 ⟨out,na,nb,0,0,rfl,rfl,J,h1,h2,h5,h6,h3⟩) ?post1)
   case fin1 =>
     rintro c st' ⟨out,na,nb,ac,bc,rfl,rfl,J,h1,h2,h5,h6,h3⟩
     exact ⟨rfl,.inr ⟨out,na,nb,ac,bc,rfl,J,h1,h2,h5,h6,by omega⟩⟩
   case step1 =>
     clear J h1 h2 h3 h5 h6
     rintro y c st' _ hy ⟨out,na,nb,ac,bc,rfl,rfl,J,h1,h2,h5,h6,h3⟩
     dsimp only
     have ia:na-1<a.size:=by omega
     have ib:nb-1<b.size:=by omega
     refine wpS_bind (qav ib (wpS_bind (qav ia (wpS_bind (qjj hk (IntKeys.at kb ib) (IntKeys.at ka ia) ?_)))))
     rw [qha ib,qha ia]
     dsimp only
     by_cases hw:K b (nb-1)<K a (na-1)
     · rw [if_pos (by simpa using hw)]
       refine wpS_bind (qav ia ?_)
       have J2:=J.pushA sa h1 ia fun j j1 j2=>Int.le_trans (sb j (nb-1) (Nat.zero_le _) (by omega) ib) (Int.le_of_lt hw)
       by_cases e:na-1=0
       · rw [if_pos (by simpa using e)]
         exact wpS_pure ⟨rfl,.inl ⟨_,_,rfl,J2.done sa sb (.inl e)⟩⟩
       · rw [if_neg (by simpa using e)]
         split
         · exact wpS_pure ⟨rfl,.inr ⟨_,_,_,_,_,rfl,J2,by omega,h2,by omega,by omega,by omega⟩⟩
         · exact wpS_pure ⟨_,_,_,_,_,rfl,rfl,J2,by omega,h2,by omega,by omega,by omega⟩
     · rw [if_neg (by simpa using hw)]
       refine wpS_bind (qav ib ?_)
       have J2:=J.pushB sb (by omega) ib fun j j1 j2=>Int.le_trans (sa j (na-1) (Nat.zero_le _) (by omega) ia) (Int.not_lt.mp hw)
       by_cases e:nb-1=1
       · rw [if_pos (by simpa using e)]
         exact wpS_pure ⟨rfl,.inl ⟨_,_,rfl,firstB J2 e⟩⟩
       · rw [if_neg (by simpa using e)]
         split
         · exact wpS_pure ⟨rfl,.inr ⟨_,_,_,_,_,rfl,J2,h1,by omega,by omega,by omega,by omega⟩⟩
         · exact wpS_pure ⟨_,_,_,_,_,rfl,rfl,J2,h1,by omega,by omega,by omega,by omega⟩
   case post1 =>
     clear J h1 h2 h3 h5 h6
     rintro c st' ⟨rfl,⟨r,t,rfl,hr⟩ | ⟨out,na,nb,ac,bc,rfl,J,h1,h2,h5,h6,h3⟩⟩
     · exact wpS_pure ⟨g,r,_,rfl,rfl,hr⟩
     dsimp only
     refine wpS_bind (wpS_lift (wpAny_rule ⟨rfl,?_⟩))
     refine wpS_bind (wpS_mono (wpS_forRange (I:=fun y c st'=>∃g out na nb mg ac bc,st'=qbW st g∧c=(none,na,nb,out,mg,ac,bc)∧MH a b out na nb∧0<na∧1<nb∧na≤a.size∧nb≤b.size∧x+1+(na+nb)≤a.size+b.size)
       (Q:=fun c st'=>∃g,st'=qbW st g∧((∃r t,c=(some r,t)∧qie a b r)∨∃out na nb mg ac bc,c=(none,na,nb,out,mg,ac,bc)∧MH a b out na nb∧0<na∧1<nb∧na≤a.size∧nb≤b.size∧x+1+(na+nb)≤a.size+b.size)) ?step2 ?fin2 ⟨g,out,na,nb,_,ac,bc,rfl,rfl,J,h1,h2,h5,h6,h3⟩) ?post2)
     case fin2 =>
       rintro c st' ⟨g,out,na,nb,mg,ac,bc,rfl,rfl,J,h1,h2,h5,h6,h3⟩
       exact ⟨g,rfl,.inr ⟨out,na,nb,mg,ac,bc,rfl,J,h1,h2,h5,h6,h3⟩⟩
     case post2 =>
       clear J h1 h2 h3 h5 h6
       rintro c st' ⟨g,rfl,⟨r,t,rfl,hr⟩ | ⟨out,na,nb,mg,ac,bc,rfl,J,h1,h2,h5,h6,h3⟩⟩
       · exact wpS_pure ⟨g,r,_,rfl,rfl,hr⟩
       dsimp only
       exact wpS_bind (qgY (wpS_pure ⟨_,out,na,nb,_,rfl,rfl,J,h1,h2,h5,h6,by omega⟩))
     case step2 =>
       clear J h1 h2 h3 h5 h6
       rintro y c st' _ hy ⟨g,out,na,nb,mg,ac,bc,rfl,rfl,J,h1,h2,h5,h6,h3⟩
       dsimp only
       have ib:nb-1<b.size:=by omega
       by_cases hg:mg>1
       all_goals first | rw [if_pos hg] | rw [if_neg hg]
       all_goals
         refine wpS_bind (qgY ?_)
         refine wpS_bind (qav ib ?_)
         refine wpS_bind (qby hk (IntKeys.at kb ib) ka (by omega) (fun i j i1 i2 i3=>sa i j (Nat.zero_le _) i2 (by omega)) (by omega) fun k k1 k2 k3=>?_)
         dsimp only
         simp only [Bool.false_eq_true,if_false,qha ib,Nat.zero_add] at k2 k3
         have JA:=J.stepA sa k1 fun i j i1 i2 i3 j1 j2=>Int.le_trans (sb j (nb-1) (Nat.zero_le _) (by omega) ib) (Int.le_of_lt (k3 i i1 i2))
         have nl:∀i,i<k→i<a.size→K a i≤K b (nb-1):=fun i i1 i2=>k2 i (Nat.zero_le _) i1
         by_cases hk0:na-k>0
         · rw [if_pos hk0]
           by_cases e1:k=0
           · rw [if_pos (show (k==0)=true by simpa using e1)]
             exact wpS_pure ⟨_,rfl,.inl ⟨_,_,rfl,JA.done sa sb (.inl e1)⟩⟩
           rw [if_neg (show ¬(k==0)=true by simpa using e1)]
           have h1':0<k:=by omega
           have h5':k≤a.size:=by omega
           have h3':x+1+(k+nb)≤a.size+b.size:=by omega
           clear J h1 h3 h5 k1 k2 k3 e1 hk0
           revert JA nl h1' h5' h3'
           generalize na-k=ka'
           generalize out++(a.extract k na).reverse=out
           revert k
           intro na J nl h1 h5 h3
           refine wpS_bind (qav ib ?_)
           have J2:=J.pushB sb (by omega) ib nl
           by_cases e:nb-1=1
           · rw [if_pos (show (nb-1==1)=true by simpa using e)]
             exact wpS_pure ⟨_,rfl,.inl ⟨_,_,rfl,firstB J2 e⟩⟩
           rw [if_neg (show ¬(nb-1==1)=true by simpa using e)]
           have ia:na-1<a.size:=by omega
           refine wpS_bind (qav ia ?_)
           refine wpS_bind (qby hk (IntKeys.at ka ia) kb (by omega) (fun i j i1 i2 i3=>sb i j (Nat.zero_le _) i2 (by omega)) (by omega) fun m m1 m2 m3=>?_)
           dsimp only
           simp only [if_true,qha ia,Nat.zero_add] at m2 m3
           have JB:=J2.stepB sb m1 fun i j i1 i2 j1 j2 j3=>Int.le_trans (sa i (na-1) (Nat.zero_le _) (by omega) ia) (m3 j j1 j2)
           have nr:∀j,j<m→j<b.size→K b j≤K a (na-1):=fun j j1 j2=>Int.le_of_lt (m2 j (Nat.zero_le _) j1)
           by_cases hm0:nb-1-m>0
           · rw [if_pos hm0]
             by_cases e3:m=1
             · rw [if_pos (show (m==1)=true by simpa using e3)]
               exact wpS_pure ⟨_,rfl,.inl ⟨_,_,rfl,firstB JB e3⟩⟩
             rw [if_neg (show ¬(m==1)=true by simpa using e3)]
             by_cases e5:m=0
             · rw [if_pos (show (m==0)=true by simpa using e5)]
               exact wpS_pure ⟨_,rfl,.inl ⟨_,_,rfl,JB.done sa sb (.inr e5)⟩⟩
             rw [if_neg (show ¬(m==0)=true by simpa using e5)]
             refine wpS_bind (qav ia ?_)
             have J3:=JB.pushA sa h1 ia nr
             by_cases e4:na-1=0
             · rw [if_pos (show (na-1==0)=true by simpa using e4)]
               exact wpS_pure ⟨_,rfl,.inl ⟨_,_,rfl,J3.done sa sb (.inl e4)⟩⟩
             rw [if_neg (show ¬(na-1==0)=true by simpa using e4)]
             split
             · exact wpS_pure ⟨_,rfl,.inr ⟨_,_,_,_,_,_,rfl,J3,by omega,by omega,by omega,by omega,by omega⟩⟩
             · exact wpS_pure ⟨_,_,_,_,_,_,_,rfl,rfl,J3,by omega,by omega,by omega,by omega,by omega⟩
           · rw [if_neg hm0]
             have e0:m=nb-1:=by omega
             rw [e0] at nr
             refine wpS_bind (qav ia ?_)
             have J3:=J2.pushA sa h1 ia nr
             by_cases e4:na-1=0
             · rw [if_pos (show (na-1==0)=true by simpa using e4)]
               exact wpS_pure ⟨_,rfl,.inl ⟨_,_,rfl,J3.done sa sb (.inl e4)⟩⟩
             rw [if_neg (show ¬(na-1==0)=true by simpa using e4)]
             split
             · exact wpS_pure ⟨_,rfl,.inr ⟨_,_,_,_,_,_,rfl,J3,by omega,by omega,by omega,by omega,by omega⟩⟩
             · exact wpS_pure ⟨_,_,_,_,_,_,_,rfl,rfl,J3,by omega,by omega,by omega,by omega,by omega⟩
         · rw [if_neg hk0]
           have e0:k=na:=by omega
           rw [e0] at nl
           generalize na-k=ka'
           clear JA k1 k2 k3 hk0
           refine wpS_bind (qav ib ?_)
           have J2:=J.pushB sb (by omega) ib nl
           by_cases e:nb-1=1
           · rw [if_pos (show (nb-1==1)=true by simpa using e)]
             exact wpS_pure ⟨_,rfl,.inl ⟨_,_,rfl,firstB J2 e⟩⟩
           rw [if_neg (show ¬(nb-1==1)=true by simpa using e)]
           have ia:na-1<a.size:=by omega
           refine wpS_bind (qav ia ?_)
           refine wpS_bind (qby hk (IntKeys.at ka ia) kb (by omega) (fun i j i1 i2 i3=>sb i j (Nat.zero_le _) i2 (by omega)) (by omega) fun m m1 m2 m3=>?_)
           dsimp only
           simp only [if_true,qha ia,Nat.zero_add] at m2 m3
           have JB:=J2.stepB sb m1 fun i j i1 i2 j1 j2 j3=>Int.le_trans (sa i (na-1) (Nat.zero_le _) (by omega) ia) (m3 j j1 j2)
           have nr:∀j,j<m→j<b.size→K b j≤K a (na-1):=fun j j1 j2=>Int.le_of_lt (m2 j (Nat.zero_le _) j1)
           by_cases hm0:nb-1-m>0
           · rw [if_pos hm0]
             by_cases e3:m=1
             · rw [if_pos (show (m==1)=true by simpa using e3)]
               exact wpS_pure ⟨_,rfl,.inl ⟨_,_,rfl,firstB JB e3⟩⟩
             rw [if_neg (show ¬(m==1)=true by simpa using e3)]
             by_cases e5:m=0
             · rw [if_pos (show (m==0)=true by simpa using e5)]
               exact wpS_pure ⟨_,rfl,.inl ⟨_,_,rfl,JB.done sa sb (.inr e5)⟩⟩
             rw [if_neg (show ¬(m==0)=true by simpa using e5)]
             refine wpS_bind (qav ia ?_)
             have J3:=JB.pushA sa h1 ia nr
             by_cases e4:na-1=0
             · rw [if_pos (show (na-1==0)=true by simpa using e4)]
               exact wpS_pure ⟨_,rfl,.inl ⟨_,_,rfl,J3.done sa sb (.inl e4)⟩⟩
             rw [if_neg (show ¬(na-1==0)=true by simpa using e4)]
             split
             · exact wpS_pure ⟨_,rfl,.inr ⟨_,_,_,_,_,_,rfl,J3,by omega,by omega,by omega,by omega,by omega⟩⟩
             · exact wpS_pure ⟨_,_,_,_,_,_,_,rfl,rfl,J3,by omega,by omega,by omega,by omega,by omega⟩
           · rw [if_neg hm0]
             have e0:m=nb-1:=by omega
             rw [e0] at nr
             refine wpS_bind (qav ia ?_)
             have J3:=J2.pushA sa h1 ia nr
             by_cases e4:na-1=0
             · rw [if_pos (show (na-1==0)=true by simpa using e4)]
               exact wpS_pure ⟨_,rfl,.inl ⟨_,_,rfl,J3.done sa sb (.inl e4)⟩⟩
             rw [if_neg (show ¬(na-1==0)=true by simpa using e4)]
             split
             · exact wpS_pure ⟨_,rfl,.inr ⟨_,_,_,_,_,_,rfl,J3,by omega,by omega,by omega,by omega,by omega⟩⟩
             · exact wpS_pure ⟨_,_,_,_,_,_,_,rfl,rfl,J3,by omega,by omega,by omega,by omega,by omega⟩
end
end Tim
namespace Tim
open PySem PyProof.Rows
theorem qkJ (base:Nat):∀(r:List Keyed) (k:Nat) (xs:Array Keyed),base+k+r.length≤xs.size →
   ((r.zipIdx k).foldl (fun a (p,j)=>a.setIfInBounds (base+j) p) xs).size=xs.size∧∀i:Nat,((r.zipIdx k).foldl (fun a (p,j)=>a.setIfInBounds (base+j) p) xs)[i]?=if base+k≤i∧i<base+k+r.length then r[i-(base+k)]? else xs[i]?
 | [],k,xs,h=>⟨rfl,fun i=>by rw [if_neg (by rw [List.length_nil];omega)];rfl⟩
 | x::r,k,xs,h=>by
   rw [List.length_cons] at h
   rw [List.zipIdx_cons,List.foldl_cons]
   obtain ⟨e1,e2⟩:=qkJ base r (k+1) (xs.setIfInBounds (base+k) x) (by rw [Array.size_setIfInBounds];omega)
   refine ⟨by rw [e1,Array.size_setIfInBounds],fun i=>?_⟩
   rw [e2,List.length_cons]
   by_cases c:i=base+k
   · subst c
     rw [if_neg (by omega),if_pos (by omega),Nat.sub_self,Array.getElem?_setIfInBounds_self,if_pos (by omega)]
     rfl
   · by_cases d:base+k≤i∧i<base+k+(r.length+1)
     · rw [if_pos (by omega),if_pos d,show i-(base+k)=i-(base+(k+1))+1 by omega,List.getElem?_cons_succ]
     · rw [if_neg (by omega),if_neg d,Array.getElem?_setIfInBounds_ne (by omega)]
theorem qg4 {xs ys:Array Keyed} {lo hi:Nat} {r:List Keyed} (hlo:lo≤hi) (hhi:hi≤xs.size) (hr:r.length=hi-lo) (hs:ys.size=xs.size)
   (h:∀i:Nat,ys[i]?=if lo≤i∧i<hi then r[i-lo]? else xs[i]?):ys.toList=xs.toList.take lo++(r++xs.toList.drop hi):=by
 refine List.ext_getElem? fun i=>?_
 rw [Array.getElem?_toList,h]
 have l1:(xs.toList.take lo).length=lo:=by rw [List.length_take,Array.length_toList];omega
 by_cases c1:i<lo
 · rw [if_neg (by omega),List.getElem?_append_left (by omega),List.getElem?_take,if_pos c1,Array.getElem?_toList]
 · rw [List.getElem?_append_right (by omega),l1]
   by_cases c2:i<hi
   · rw [if_pos (by omega),List.getElem?_append_left (by omega)]
   · rw [if_neg (by omega),List.getElem?_append_right (by omega),List.getElem?_drop,Array.getElem?_toList]
     congr 1
     omega
theorem qtg (xs:Array Keyed) {lo mid hi:Nat} (h1:lo≤mid) (h2:mid≤hi):xs.toList=xs.toList.take lo++((xs.extract lo mid).toList++(xs.extract mid hi).toList++xs.toList.drop hi):=by
 rw [qbp,qbp]
 have e1:=List.take_append_drop lo xs.toList
 have e2:=List.take_append_drop (mid-lo) (xs.toList.drop lo)
 rw [List.drop_drop,show lo+(mid-lo)=mid by omega] at e2
 have e3:=List.take_append_drop (hi-mid) (xs.toList.drop mid)
 rw [List.drop_drop,show mid+(hi-mid)=hi by omega] at e3
 rw [List.append_assoc,e3,e2,e1]
theorem qku {xs r:Array Keyed} {lo mid hi:Nat} (h1:lo≤mid) (h2:mid≤hi) (h3:hi≤xs.size) (hf:qie (xs.extract lo mid) (xs.extract mid hi) r) :
   let ys:=r.toList.zipIdx.foldl (fun a (p,j)=>a.setIfInBounds (lo+j) p) xs
   ys.Perm xs∧(∀i,i<lo∨hi≤i→K ys i=K xs i)∧SR ys lo hi∧∀i,lo≤i→i<hi→∃j,lo≤j∧j<hi∧K ys i=K xs j:=by
 intro ys
 have hlen:r.toList.length=hi-lo:=by
   rw [hf.1.length_eq,List.length_append,Array.length_toList,Array.length_toList,Array.size_extract,Array.size_extract]
   omega
 obtain ⟨q1,q2⟩:=qkJ lo r.toList 0 xs (by omega)
 have q2:∀i:Nat,ys[i]?=if lo≤i∧i<hi then r.toList[i-lo]? else xs[i]?:=fun i=>by
   have:=q2 i
   rw [Nat.add_zero,hlen,show lo+(hi-lo)=hi by omega] at this
   exact this
 have el:=qg4 (by omega) h3 hlen q1 q2
 refine ⟨?_,fun i hi'=>?_,fun i j hl hij hj=>?_,fun i hl hh=>?_⟩
 · rw [Array.perm_iff_toList_perm,el]
   conv=>rhs;rw [qtg xs h1 h2]
   exact List.Perm.append_left _ (List.Perm.append_right _ hf.1)
 · refine K_congr ?_
   rw [q2,if_neg (by omega)]
 · rcases Nat.lt_or_ge i j with z | z
   · have hi1:i-lo<r.toList.length:=by omega
     have hj1:j-lo<r.toList.length:=by omega
     have:=List.pairwise_iff_getElem.mp hf.2 (i-lo) (j-lo) hi1 hj1 (by omega)
     unfold K
     rw [q2,q2,if_pos (by omega),if_pos (by omega),List.getElem?_eq_getElem hi1,List.getElem?_eq_getElem hj1]
     exact this
   · have:i=j:=by omega
     subst this
     exact Int.le_refl _
 · have hi1:i-lo<r.toList.length:=by omega
   have hm:=hf.1.mem_iff.mp (List.getElem_mem hi1)
   have e:K ys i=numOf (r.toList[i-lo]).1:=by
     unfold K
     rw [q2,if_pos (by omega),List.getElem?_eq_getElem hi1]
   rw [e]
   rcases List.mem_append.mp hm with z | z
   · rw [qbp] at z
     obtain ⟨j,j1,j2,j3,j4⟩:=qdl z
     exact ⟨j,j1,by omega,j4⟩
   · rw [qbp] at z
     obtain ⟨j,j1,j2,j3,j4⟩:=qdl z
     exact ⟨j,by omega,by omega,j4⟩
def Rn (xs:Array Keyed):Nat→List (Nat×Nat)→Nat→Prop
 | a,[],b=>a=b
 | a,(st,n)::r,b=>st=a∧0<n∧SR xs a (a+n)∧Rn xs (a+n) r b
theorem Rn.le {xs:Array Keyed}:∀{L:List (Nat×Nat)} {a b:Nat},Rn xs a L b→a+L.length≤b
 | [],a,b,h=>by
   have:a=b:=h
   simp
   omega
 | (s,n)::r,a,b,h=>by
   obtain ⟨_,h2,_,h4⟩:=h
   have:=h4.le
   rw [List.length_cons]
   omega
theorem SR.congr {xs ys:Array Keyed} {a b:Nat} (h:SR xs a b) (e:∀i,a≤i→i<b→K ys i=K xs i):SR ys a b:=fun i j h1 h2 h3=>by
 rw [e i h1 (by omega),e j (by omega) h3]
 exact h i j h1 h2 h3
theorem Rn.congr {xs ys:Array Keyed}:∀{L:List (Nat×Nat)} {a b:Nat},Rn xs a L b→(∀i,a≤i→i<b→K ys i=K xs i)→Rn ys a L b
 | [],a,b,h,_=>h
 | (s,n)::r,a,b,h,e=>by
   obtain ⟨h1,h2,h3,h4⟩:=h
   have:=h4.le
   exact ⟨h1,h2,h3.congr fun i i1 i2=>e i i1 (by omega),h4.congr fun i i1 i2=>e i (by omega) i2⟩
theorem Rn.append {xs:Array Keyed}:∀{L M:List (Nat×Nat)} {a b:Nat},Rn xs a (L++M) b↔∃c,Rn xs a L c∧Rn xs c M b
 | [],M,a,b=>⟨fun h=>⟨a,rfl,h⟩,fun ⟨c,e,h⟩=>by cases (show a=c from e);exact h⟩
 | (s,n)::r,M,a,b=>by
   constructor
   · rintro ⟨h1,h2,h3,h4⟩
     obtain ⟨c,c1,c2⟩:=Rn.append.mp h4
     exact ⟨c,⟨h1,h2,h3,c1⟩,c2⟩
   · rintro ⟨c,⟨h1,h2,h3,c1⟩,c2⟩
     exact ⟨h1,h2,h3,Rn.append.mpr ⟨c,c1,c2⟩⟩
abbrev pr2:Nat×Nat×Nat→Nat×Nat:=fun t=>(t.1,t.2.1)
abbrev qbt (st:SortSt):List (Nat×Nat):=(pendingOf st).toList.map pr2
theorem qpI {M:Model} {A:Around} {E:Value→Shared→Prop} {s:Shared} {st st':SortSt} {Q:PUnit→SortSt→Prop} (h:Q ⟨⟩ st'):wpS M A E s (set st':StateT SortSt Sem PUnit) Q st:=by
 unfold wpS;rw [StateT.run_set];exact wpAny_pure ⟨rfl,h⟩
theorem qkc {xs:Array Keyed} {lo hi i:Nat} (h:lo+i<hi) (hh:hi≤xs.size):K (xs.extract lo hi) i=K xs (lo+i):=by
 refine K_congr ?_
 rw [Array.getElem?_extract,if_pos (by omega)]
theorem qje {xs:Array Keyed} {lo hi:Nat} (h:IntKeys xs):IntKeys (xs.extract lo hi):=fun p hp=>h p (by
 rw [qbp] at hp
 exact List.mem_of_mem_drop (List.mem_of_mem_take hp))
theorem qop {xs:Array Keyed} {lo hi a b:Nat} (h:SR xs a b) (h1:a≤lo) (h2:hi≤b) (h3:hi≤xs.size):SR (xs.extract lo hi) 0 (xs.extract lo hi).size:=by
 intro i j _ hij hj
 rw [Array.size_extract] at hj
 rw [qkc (by omega) h3,qkc (by omega) h3]
 exact h _ _ (by omega) (by omega) (by omega)
section
variable {prog:Program} {w:World} {A:Around} {E:Value→Shared→Prop} {s:Shared} {a₀:Array Keyed}
set_option maxHeartbeats 1000000 in
theorem qdj {st:SortSt} {i lo:Nat} {L1 L2:List (Nat×Nat×Nat)} {t1 t2:Nat×Nat×Nat} {Q:Bool→SortSt→Prop} (h0:IntKeys a₀) (hB:TB a₀ st) (hp:(pendingOf st).toList=L1++t1::t2::L2) (hi:L1.length=i)
   (hr:Rn (arrOf st) 0 (qbt st) lo) (hlo:lo≤a₀.size)
   (h:∀st',TB a₀ st'→(pendingOf st').size+1=(pendingOf st).size→Rn (arrOf st') 0 (qbt st') lo→(∀j,lo≤j→K (arrOf st') j=K (arrOf st) j)→Q true st'):wpS (model prog w) A E s (mergeAt' i) Q st:=by
 obtain ⟨sa,na,pw⟩:=t1
 obtain ⟨sb,nb,q0⟩:=t2
 have e1:(pendingOf st)[i]?=some (sa,na,pw):=by
   rw [←Array.getElem?_toList,hp,List.getElem?_append_right (by omega),hi,Nat.sub_self]
   rfl
 have e2:(pendingOf st)[i+1]?=some (sb,nb,q0):=by
   rw [←Array.getElem?_toList,hp,List.getElem?_append_right (by omega),hi,show i+1-i=1 by omega]
   rfl
 have en:(((pendingOf st).setIfInBounds i (sa,na+nb,pw)).eraseIdxIfInBounds (i+1)).toList=L1++(sa,na+nb,pw)::L2:=by
   rw [Array.toList_eraseIdxIfInBounds,Array.toList_setIfInBounds,hp,List.set_append_right _ _ (by omega),hi,Nat.sub_self,List.set_cons_zero,List.eraseIdx_append_of_length_le (by omega),hi,show i+1-i=1 by omega]
   rfl
 rw [show qbt st=L1.map pr2++(sa,na)::(sb,nb)::L2.map pr2 by unfold qbt;rw [hp,List.map_append];rfl] at hr
 obtain ⟨c,r1,rfl,n1,s1,rfl,n2,s2,r2⟩:=Rn.append.mp hr
 have hle:=r2.le
 have hsz:=hB.size
 have hlen:(((pendingOf st).setIfInBounds i (sa,na+nb,pw)).eraseIdxIfInBounds (i+1)).size+1=(pendingOf st).size:=by
   rw [←Array.length_toList,←Array.length_toList,en,hp,List.length_append,List.length_append,List.length_cons,List.length_cons,List.length_cons]
   omega
 have k0:=hB.keys h0
 have fin:∀ys g,ys.Perm (arrOf st)→(∀j,j<sa∨sa+na+nb≤j→K ys j=K (arrOf st) j)→SR ys sa (sa+(na+nb)) →
     Q true (SortSt.mk' (kindOf st) ys (((pendingOf st).setIfInBounds i (sa,na+nb,pw)).eraseIdxIfInBounds (i+1)) g (failedOf st)):=fun ys g p1 p2 p3=>by
   refine h _ ⟨p1.trans hB.perm,hB.kind,hB.failed⟩ hlen ?_ fun j hj=>p2 j (.inr (by omega))
   show Rn ys 0 (List.map pr2 (((pendingOf st).setIfInBounds i (sa,na+nb,pw)).eraseIdxIfInBounds (i+1)).toList) lo
   rw [en,List.map_append]
   refine Rn.append.mpr ⟨sa,r1.congr fun j _ hj=>p2 j (.inl hj),rfl,(show 0<na+nb by omega),p3,?_⟩
   rw [←Nat.add_assoc]
   exact r2.congr fun j hj _=>p2 j (.inr hj)
 refine wpS_bind (wpS_get ?_)
 dsimp only
 rw [e1,e2]
 dsimp only
 refine wpS_bind (qpI ?_)
 have b1:sa+na<(arrOf st).size:=by omega
 refine wpS_bind (qav b1 ?_)
 refine wpS_bind (qby hB.kind (IntKeys.at k0 b1) k0 (by rw [hsz];omega) s1 n1 fun k k1 k2 k3=>?_)
 simp only [Bool.false_eq_true,if_false,qha b1] at k2 k3
 dsimp only
 by_cases c1:na-k=0
 · rw [if_pos (by simpa using c1)]
   refine wpS_pure (fin (arrOf st) (gallopOf st) (Array.Perm.refl _) (fun _ _=>rfl) fun x y hx hxy hy=>?_)
   by_cases d1:y<sa+na
   · exact s1 x y hx hxy d1
   · by_cases d2:sa+na≤x
     · exact s2 x y d2 hxy (by omega)
     · exact Int.le_trans (k2 x hx (by omega)) (s2 (sa+na) y (Nat.le_refl _) (by omega) (by omega))
 rw [if_neg (by simpa using c1)]
 have b2:sa+k+(na-k)-1<(arrOf st).size:=by omega
 refine wpS_bind (qav b2 ?_)
 refine wpS_bind (qby hB.kind (IntKeys.at k0 b2) k0 (show sa+na+nb≤(arrOf st).size by omega) s2 (by omega) fun m m1 m2 m3=>?_)
 simp only [if_true,qha b2] at m2 m3
 rw [show sa+k+(na-k)-1=sa+na-1 by omega] at m2 m3
 dsimp only
 have R1:∀x y,sa≤x→x<sa+k→sa+na≤y→y<sa+na+nb→K (arrOf st) x≤K (arrOf st) y:=fun x y hx hx2 hy hy2=>Int.le_trans (k2 x hx hx2) (s2 (sa+na) y (Nat.le_refl _) hy hy2)
 have R3:∀x y,sa≤x→x<sa+na→sa+na+m≤y→y<sa+na+nb→K (arrOf st) x≤K (arrOf st) y:=fun x y hx hx2 hy hy2=>Int.le_trans (s1 x (sa+na-1) hx (by omega) (by omega)) (m3 y hy hy2)
 by_cases c2:m=0
 · rw [if_pos (by simpa using c2)]
   refine wpS_pure (fin (arrOf st) (gallopOf st) (Array.Perm.refl _) (fun _ _=>rfl) fun x y hx hxy hy=>?_)
   by_cases d1:y<sa+na
   · exact s1 x y hx hxy d1
   · by_cases d2:sa+na≤x
     · exact s2 x y d2 hxy (by omega)
     · exact R3 x y hx (by omega) (by omega) (by omega)
 rw [if_neg (by simpa using c2)]
 have szx:((arrOf st).extract (sa+k) (sa+na)).size=na-k:=by rw [Array.size_extract];omega
 have szy:((arrOf st).extract (sa+na) (sa+na+m)).size=m:=by rw [Array.size_extract];omega
 have after:∀(r:Array Keyed) (g:Nat),qie ((arrOf st).extract (sa+k) (sa+na)) ((arrOf st).extract (sa+na) (sa+na+m)) r →
     wpS (model prog w) A E s (do
       modify fun s=>setArr s (r.toList.zipIdx.foldl (fun a (p,j)=>a.setIfInBounds (sa+k+j) p) (arrOf s))
       let __do_lift ←get
       pure (failedOf __do_lift).isNone) Q (qbW (setPending st (((pendingOf st).setIfInBounds i (sa,na+nb,pw)).eraseIdxIfInBounds (i+1))) g):=fun r g hf=>by
   obtain ⟨p1,p2,p3,p4⟩:=qku (by omega) (by omega) (by omega) hf
   refine wpS_bind (wpS_modify (wpS_bind (wpS_get (wpS_pure ?_))))
   have hn:(failedOf st).isNone=true:=by rw [hB.failed];rfl
   show Q (failedOf st).isNone _
   rw [hn]
   refine fin _ g p1 (fun j hj=>p2 j (by omega)) fun x y hx hxy hy=>?_
   have rd:∀z,sa+k≤z→z<sa+na+m→∃j,sa+k≤j∧j<sa+na+m∧K (r.toList.zipIdx.foldl (fun a (p,j)=>a.setIfInBounds (sa+k+j) p) (arrOf st)) z=K (arrOf st) j:=p4
   by_cases x1:x<sa+k
   · rw [p2 x (.inl x1)]
     by_cases y1:y<sa+k
     · rw [p2 y (.inl y1)]
       exact s1 x y hx hxy (by omega)
     · by_cases y2:y<sa+na+m
       · obtain ⟨j,j1,j2,j3⟩:=rd y (by omega) y2
         rw [j3]
         by_cases j4:j<sa+na
         · exact s1 x j hx (by omega) j4
         · exact R1 x j hx x1 (by omega) (by omega)
       · rw [p2 y (.inr (by omega))]
         exact R1 x y hx x1 (by omega) (by omega)
   · by_cases x2:x<sa+na+m
     · by_cases y2:y<sa+na+m
       · exact p3 x y (by omega) hxy y2
       · obtain ⟨j,j1,j2,j3⟩:=rd x (by omega) x2
         rw [j3,p2 y (.inr (by omega))]
         by_cases j4:j<sa+na
         · exact R3 j y (by omega) j4 (by omega) (by omega)
         · exact s2 j y (by omega) (by omega) (by omega)
     · rw [p2 x (.inr (by omega)),p2 y (.inr (by omega))]
       exact s2 x y (by omega) hxy (by omega)
 have kx:=qje (lo:=sa+k) (hi:=sa+na) k0
 have ky:=qje (lo:=sa+na) (hi:=sa+na+m) k0
 have sx:=qop (lo:=sa+k) (hi:=sa+na) s1 (by omega) (Nat.le_refl _) (by omega)
 have sy:=qop (lo:=sa+na) (hi:=sa+na+m) s2 (Nat.le_refl _) (by omega) (by omega)
 have f1:∀j,j<((arrOf st).extract (sa+k) (sa+na)).size→K ((arrOf st).extract (sa+na) (sa+na+m)) 0≤K ((arrOf st).extract (sa+k) (sa+na)) j:=fun j hj=>by
   rw [szx] at hj
   rw [qkc (by omega) (by omega),qkc (by omega) (by omega)]
   exact Int.le_of_lt (k3 _ (by omega) (by omega))
 have f2:∀j,j<((arrOf st).extract (sa+na) (sa+na+m)).size→K ((arrOf st).extract (sa+na) (sa+na+m)) j≤K ((arrOf st).extract (sa+k) (sa+na)) (((arrOf st).extract (sa+k) (sa+na)).size-1):=fun j hj=>by
   rw [szy] at hj
   rw [szx,qkc (by omega) (by omega),qkc (by omega) (by omega),show sa+k+(na-k-1)=sa+na-1 by omega]
   exact Int.le_of_lt (m2 _ (by omega) (by omega))
 have px:0<((arrOf st).extract (sa+k) (sa+na)).size:=by omega
 have py:0<((arrOf st).extract (sa+na) (sa+na+m)).size:=by omega
 by_cases c3:na-k≤m
 · rw [if_pos c3]
   exact wpS_bind (qi1 hB.kind kx ky sx sy px py f1 f2 after)
 · rw [if_neg c3]
   exact wpS_bind (qiL hB.kind kx ky sx sy px py f1 f2 after)
end
end Tim
namespace Tim
open PySem PyProof.Rows
theorem qjG {α:Type} {L:List α} {n:Nat} (h:L.length=n+2):∃L1 t1 t2,L=L1++t1::t2::[]∧L1.length=n:=by
 refine ⟨L.take n,L[n],L[n+1],?_,by simp;omega⟩
 have e:=List.take_append_drop n L
 rw [List.drop_eq_getElem_cons (by omega),List.drop_eq_getElem_cons (by omega),List.drop_eq_nil_of_le (by omega)] at e
 exact e.symm
theorem qpm {α:Type} {L:List α} {n:Nat} (h:n+1<L.length):∃L1 t1 t2 L2,L=L1++t1::t2::L2∧L1.length=n:=by
 refine ⟨L.take n,L[n],L[n+1],L.drop (n+1+1),?_,by simp;omega⟩
 have e:=List.take_append_drop n L
 rw [List.drop_eq_getElem_cons (by omega),List.drop_eq_getElem_cons (by omega)] at e
 exact e.symm
theorem qp6 {c:Prop} [Decidable c] {n:Nat}:(if c then n-1 else n)≤n:=by split<;>omega
theorem qfj {p:Array (Nat×Nat×Nat)} {i:Nat} {f:Nat×Nat×Nat→Nat×Nat×Nat} (hf:∀t,pr2 (f t)=pr2 t):(p.modify i f).toList.map pr2=p.toList.map pr2:=by
 refine List.ext_getElem? fun j=>?_
 rw [List.getElem?_map,List.getElem?_map,Array.getElem?_toList,Array.getElem?_toList,Array.getElem?_modify]
 split
 · cases p[j]? with
   | none=>rfl
   | some t=>simp [hf t]
 · rfl
section
variable {prog:Program} {w:World} {A:Around} {E:Value→Shared→Prop} {s:Shared} {a₀:Array Keyed}
set_option maxHeartbeats 1000000 in
theorem qhx {st:SortSt} {Q:Unit→SortSt→Prop} (h0:IntKeys a₀) (hB:TB a₀ st) (hp:pendingOf st = #[]) (h2:0<a₀.size)
   (h:∀st',(arrOf st').Perm a₀→failedOf st'=none→SortedTo (arrOf st') a₀.size→Q () st'):wpS (model prog w) A E s sortRuns' Q st:=by
 rw [sortRuns'_eq]
 refine wpS_bind (wpS_get ?_)
 dsimp only
 rw [hB.size]
 generalize minRun' a₀.size a₀.size 0=minrun
 refine wpS_bind (wpS_mono (wpS_forRange
   (I:=fun x c st'=>∃lo,c=(none,lo)∧TB a₀ st'∧Rn (arrOf st') 0 (qbt st') lo∧x≤lo∧lo≤a₀.size)
   (Q:=fun c st'=>c=(none,a₀.size)∧TB a₀ st'∧Rn (arrOf st') 0 (qbt st') a₀.size) ?step ?fin ⟨0,rfl,hB,by unfold qbt;rw [hp];rfl,by omega,by omega⟩) ?post)
 case fin =>
   rintro c st' ⟨lo,rfl,hB',hr,h3,h4⟩
   have:lo=a₀.size:=by omega
   subst this
   exact ⟨rfl,hB',hr⟩
 case step =>
   rintro x c st' _ hx ⟨lo,rfl,hB',hr,h3,h4⟩
   dsimp only
   by_cases c1:lo≥a₀.size
   · rw [if_pos c1]
     have:lo=a₀.size:=by omega
     subst this
     exact wpS_pure ⟨rfl,hB',hr⟩
   rw [if_neg c1]
   refine wpS_bind (qqr h0 (show lo+(a₀.size-lo)≤a₀.size by omega) (by omega) hB' fun m st2 hA2 hm1 hm2 hs2=>?_)
   dsimp only
   have keepR:∀{s1 s2:SortSt},At s1 s2 lo→Rn (arrOf s1) 0 (qbt s1) lo→Rn (arrOf s2) 0 (qbt s2) lo:=fun {s1 s2} hA q=>by
     obtain ⟨xs,rfl,hc⟩:=hA
     exact q.congr fun i _ hi=>K_congr (hc.2 i hi)
   have hB2:=hB'.at' hA2
   have hr2:=keepR hA2 hr
   -- what comes behind the run's end
   have qeE:∀(n:Nat) (st3:SortSt),TB a₀ st3→Rn (arrOf st3) 0 (qbt st3) lo→1≤n→lo+n≤a₀.size→SR (arrOf st3) lo (lo+n) →
       ∃lo',((none,lo+n):Option Unit×Nat)=(none,lo')∧TB a₀ (setPending st3 ((pendingOf st3).push (lo,n,0)))∧Rn (arrOf (setPending st3 ((pendingOf st3).push (lo,n,0)))) 0 (qbt (setPending st3 ((pendingOf st3).push (lo,n,0)))) lo'∧x+1≤lo'∧lo'≤a₀.size:=fun n st3 b3 r3 n1 n2 s3=>by
     refine ⟨lo+n,rfl,⟨b3.perm,b3.kind,b3.failed⟩,?_,by omega,n2⟩
     show Rn (arrOf st3) 0 (((pendingOf st3).push (lo,n,0)).toList.map pr2) (lo+n)
     rw [Array.toList_push,List.map_append]
     exact Rn.append.mpr ⟨lo,r3,rfl,n1,s3,rfl⟩
   by_cases c2:m<minrun
   · rw [if_pos c2]
     refine wpS_bind (wpS_lift (wpAny_rule ⟨rfl,?_⟩))
     refine wpS_bind (qpA h0 (show lo+min (a₀.size-lo) minrun≤a₀.size by omega) ⟨by omega,by omega⟩ hB2 hs2 fun st3 hA3 hs3=>?_)
     rw [if_neg (by decide)]
     have hB3:=hB2.at' hA3
     have hr3:=keepR hA3 hr2
     have n1:1≤min (a₀.size-lo) minrun:=by omega
     have n2:lo+min (a₀.size-lo) minrun≤a₀.size:=by omega
     clear hs2 hB2 hr2 hA2 hA3
     generalize min (a₀.size-lo) minrun=n at hs3 n1 n2 ⊢
     refine wpS_bind (wpS_get ?_)
     split
     · rename_i s1 n0 q0 hback
       generalize power' a₀.size _ _ a₀.size=pw
       refine wpS_bind (wpS_mono (wpS_forRange (I:=fun y c st4=>c=(none,())∧TB a₀ st4∧Rn (arrOf st4) 0 (qbt st4) lo∧SR (arrOf st4) lo (lo+n))
         (Q:=fun c st4=>c=(none,())∧TB a₀ st4∧Rn (arrOf st4) 0 (qbt st4) lo∧SR (arrOf st4) lo (lo+n)) ?stepm ?finm ⟨rfl,hB3,hr3,hs3⟩) ?postm)
       case finm =>
         rintro c st4 ⟨rfl,b4,r4,s4⟩
         exact ⟨rfl,b4,r4,s4⟩
       case postm =>
         rintro c st4 ⟨rfl,b4,r4,s4⟩
         dsimp only
         refine wpS_bind (wpS_modify (wpS_bind (wpS_modify (wpS_pure ?_))))
         refine qeE n (setPending st4 ((pendingOf st4).modify ((pendingOf st4).size-1) fun x=>match x with | (st,len,_)=>(st,len,pw))) ⟨b4.perm,b4.kind,b4.failed⟩ ?_ n1 n2 s4
         show Rn (arrOf st4) 0 (((pendingOf st4).modify ((pendingOf st4).size-1) fun x=>match x with | (st,len,_)=>(st,len,pw)).toList.map pr2) lo
         rw [qfj (f:=fun x=>match x with | (st,len,_)=>(st,len,pw)) fun t=>rfl]
         exact r4
       case stepm =>
         rintro y c st4 _ hy ⟨rfl,b4,r4,s4⟩
         refine wpS_bind (wpS_get ?_)
         split
         · rename_i s5 n5 older hold
           split
           · exact wpS_pure ⟨rfl,b4,r4,s4⟩
           · have c5:(pendingOf st4).size>1:=by
               rcases Nat.lt_or_ge 1 (pendingOf st4).size with z | z
               · exact z
               · rw [if_neg (by omega)] at hold;cases hold
             obtain ⟨L1,t1,t2,e,el⟩:=qjG (L:=(pendingOf st4).toList) (n:=(pendingOf st4).size-2) (by rw [Array.length_toList];omega)
             refine wpS_bind (qdj h0 b4 e el r4 (by omega) fun st5 b5 _ r5 k5=>?_)
             rw [if_neg (by decide)]
             exact wpS_pure ⟨rfl,b5,r5,s4.congr fun i i1 _=>k5 i i1⟩
         · exact wpS_pure ⟨rfl,b4,r4,s4⟩
     · exact wpS_bind (wpS_modify (wpS_pure (qeE n st3 hB3 hr3 n1 n2 hs3)))
   · rw [if_neg c2]
     have n1:1≤m:=hm1
     have n2:lo+m≤a₀.size:=by omega
     have hB3:=hB2
     have hr3:=hr2
     have hs3:=hs2
     clear hs2 hB2 hr2 hA2
     revert n1 n2 hs3 hB3 hr3
     generalize st2=st3
     intro n1 n2 hB3 hr3 hs3
     generalize m=n at hs3 n1 n2 ⊢
     refine wpS_bind (wpS_get ?_)
     split
     · rename_i s1 n0 q0 hback
       generalize power' a₀.size _ _ a₀.size=pw
       refine wpS_bind (wpS_mono (wpS_forRange (I:=fun y c st4=>c=(none,())∧TB a₀ st4∧Rn (arrOf st4) 0 (qbt st4) lo∧SR (arrOf st4) lo (lo+n))
         (Q:=fun c st4=>c=(none,())∧TB a₀ st4∧Rn (arrOf st4) 0 (qbt st4) lo∧SR (arrOf st4) lo (lo+n)) ?stepm ?finm ⟨rfl,hB3,hr3,hs3⟩) ?postm)
       case finm =>
         rintro c st4 ⟨rfl,b4,r4,s4⟩
         exact ⟨rfl,b4,r4,s4⟩
       case postm =>
         rintro c st4 ⟨rfl,b4,r4,s4⟩
         dsimp only
         refine wpS_bind (wpS_modify (wpS_bind (wpS_modify (wpS_pure ?_))))
         refine qeE n (setPending st4 ((pendingOf st4).modify ((pendingOf st4).size-1) fun x=>match x with | (st,len,_)=>(st,len,pw))) ⟨b4.perm,b4.kind,b4.failed⟩ ?_ n1 n2 s4
         show Rn (arrOf st4) 0 (((pendingOf st4).modify ((pendingOf st4).size-1) fun x=>match x with | (st,len,_)=>(st,len,pw)).toList.map pr2) lo
         rw [qfj (f:=fun x=>match x with | (st,len,_)=>(st,len,pw)) fun t=>rfl]
         exact r4
       case stepm =>
         rintro y c st4 _ hy ⟨rfl,b4,r4,s4⟩
         refine wpS_bind (wpS_get ?_)
         split
         · rename_i s5 n5 older hold
           split
           · exact wpS_pure ⟨rfl,b4,r4,s4⟩
           · have c5:(pendingOf st4).size>1:=by
               rcases Nat.lt_or_ge 1 (pendingOf st4).size with z | z
               · exact z
               · rw [if_neg (by omega)] at hold;cases hold
             obtain ⟨L1,t1,t2,e,el⟩:=qjG (L:=(pendingOf st4).toList) (n:=(pendingOf st4).size-2) (by rw [Array.length_toList];omega)
             refine wpS_bind (qdj h0 b4 e el r4 (by omega) fun st5 b5 _ r5 k5=>?_)
             rw [if_neg (by decide)]
             exact wpS_pure ⟨rfl,b5,r5,s4.congr fun i i1 _=>k5 i i1⟩
         · exact wpS_pure ⟨rfl,b4,r4,s4⟩
     · exact wpS_bind (wpS_modify (wpS_pure (qeE n st3 hB3 hr3 n1 n2 hs3)))
 case post =>
   rintro c st' ⟨rfl,hB',hr⟩
   dsimp only
   have hl:=hr.le
   rw [List.length_map,Array.length_toList] at hl
   refine wpS_bind (wpS_mono (wpS_forRange (I:=fun x c st''=>c=(none,())∧TB a₀ st''∧Rn (arrOf st'') 0 (qbt st'') a₀.size∧x+(pendingOf st'').size≤a₀.size)
     (Q:=fun c st''=>c=(none,())∧TB a₀ st''∧Rn (arrOf st'') 0 (qbt st'') a₀.size∧(pendingOf st'').size≤1) ?step2 ?fin2 ⟨rfl,hB',hr,by omega⟩) ?post2)
   case fin2 =>
     rintro c st'' ⟨rfl,b,r,q⟩
     exact ⟨rfl,b,r,by omega⟩
   case post2 =>
     rintro c st'' ⟨rfl,b,r,q⟩
     refine wpS_pure (h st'' b.perm b.failed ?_)
     have hL:(qbt st'').length≤1:=by unfold qbt;rw [List.length_map,Array.length_toList];exact q
     revert r hL
     generalize qbt st''=L
     intro r hL
     cases L with
     | nil=>exact absurd (show 0=a₀.size from r) (by omega)
     | cons t L =>
       cases L with
       | cons t' L=>rw [List.length_cons,List.length_cons] at hL;omega
       | nil =>
         obtain ⟨u,n⟩:=t
         obtain ⟨_,z1,z2,z3⟩:=r
         have z3:0+n=a₀.size:=z3
         intro i j hij hj
         exact z2 i j (Nat.zero_le _) hij (by omega)
   case step2 =>
     rintro x c st'' _ hx ⟨rfl,b,r,q⟩
     refine wpS_bind (wpS_get ?_)
     by_cases c1:(pendingOf st'').size≤1
     · rw [if_pos c1]
       exact wpS_pure ⟨rfl,b,r,c1⟩
     rw [if_neg c1]
     generalize hidx:(if Option.any (fun x=>decide (x<Option.elim (pendingOf st'')[(pendingOf st'').size-2+1]? 0 fun x=>x.snd.fst)) (if (pendingOf st'').size-2>0 then Option.map (fun x=>x.snd.fst) (pendingOf st'')[(pendingOf st'').size-2-1]? else none)=true then (pendingOf st'').size-2-1 else (pendingOf st'').size-2)=ix
     have hix:ix+1<(pendingOf st'').toList.length:=by
       have z:ix≤(pendingOf st'').size-2:=by rw [←hidx];exact qp6
       rw [Array.length_toList]
       omega
     obtain ⟨L1,t1,t2,L2,e,el⟩:=qpm hix
     refine wpS_bind (qdj h0 b e el r (Nat.le_refl _) fun st3 b3 e3 r3 _=>?_)
     rw [if_neg (by decide)]
     exact wpS_pure ⟨rfl,b3,r3,by omega⟩
end
end Tim
namespace Tim
open PySem PyProof.Rows
section
variable {prog:Program} {w:World} {A:Around} {E:Value→Shared→Prop} {s:Shared}
theorem qkH {a:Addr} {vs:List Value} {ns:List Int} {n:Nat} {P:Fin→Shared→Prop} (at0:s.heap.get? a=some (seqObj "list" vs.toArray n)) (hI:IntsAre vs ns) (big:64≤vs.length) (hz:vs.length≤1000000)
   (h:∀(out:Array Value) (ms:List Int),IntsAre out.toList ms→ms.Perm ns→ms.Pairwise (·≤·)→P (.done (.ret .none)) { s with heap:=sortedHeap s.heap a vs out }) :
   wpAny (model prog w) A (Builtin.«list.sort» ⟨[.ref a],[]⟩) P E s:=by
 have lim:vs.length≤sizeLine:=by rw [sizeLine_eq];omega
 have two:¬vs.toArray.size<2:=by rw [List.size_toArray];omega
 have inb:=Heap.lt_size at0
 have pz:(pairsOf vs).size=vs.length:=pairsOf_size vs
 have kind:keyKind' vs.toArray=pure oneType':=by
   rcases vs with _ | ⟨u,_ | ⟨v,r⟩⟩
   · exact absurd big (by decide)
   · exact absurd big (by simp)
   · exact keyKind_ints hI
 rw [list_sort_plain]
 refine wpAny_bind (listItems_at at0 rfl (wpAny_bind (listUpdate_at at0 rfl ?_ (by rw [List.size_toArray];exact lim))))
 obtain ⟨ep,at1⟩:∃ep,(s.heap.update a (Obj.mapSeq fun _=>#[])).get? a=some (seqObj "list" #[] ep):=⟨_,get?_update_seq at0 fun _=>#[]⟩
 refine wpAny_bind (seqEpoch_at at1 rfl (wpAny_bind (wpAny_newTuple (wpAny_bind (wpAny_newList (wpAny_holding ?_) (by show 0≤sizeLine;omega))) (by rw [List.toList_toArray];exact lim))))
 have at2:(((s.heap.update a (Obj.mapSeq fun _=>#[])).push (seqObj "tuple" vs.toArray 0)).push (seqObj "list" #[] 0)).get? a=some (seqObj "list" #[] ep):=Heap.get?_push_of_some _ (Heap.get?_push_of_some _ at1)
 dsimp only
 rw [if_neg two,if_neg two,kind]
 refine wpAny_bind (wpAny_pure (wpAny_bind (wpAny_mono (qhx (a₀:=pairsOf vs) (st:=SortSt.mk' oneType' (vs.toArray.zip vs.toArray) #[] 7 none) (Q:=fun _ z=>(arrOf z).Perm (pairsOf vs)∧failedOf z=none∧SortedTo (arrOf z) (pairsOf vs).size)
   hI.intKeys ⟨Array.Perm.refl _,rfl,rfl⟩ rfl (by omega) fun z z1 z2 z3=>⟨z1,z2,z3⟩) (fun r s' q=>?_) fun _ _ e=>e)))
 obtain ⟨_,z⟩:=r
 obtain ⟨rfl,z1,z2,z3⟩:=q
 obtain ⟨ms,m1,m2,m3⟩:=sorted_out hI z1 z3
 dsimp only
 have len:((arrOf z).map (·.2)).size≤sizeLine+1:=by rw [Array.size_map,z1.size_eq,pz];omega
 refine wpAny_bind (seqEpoch_at at2 rfl (wpAny_bind (listUpdate_at at2 rfl ?_ (Nat.zero_le _) len)))
 rw [z2]
 simp only [bne_self_eq_false,Bool.false_eq_true,if_false]
 exact wpAny_pure (h _ ms m1 m2 m3)
theorem sort_any {a:Addr} {vs:List Value} {ns:List Int} {n:Nat} {P:Fin→Shared→Prop} (at0:s.heap.get? a=some (seqObj "list" vs.toArray n)) (hI:IntsAre vs ns) (hz:vs.length≤1000000)
   (h:∀(out:Array Value) (ms:List Int),IntsAre out.toList ms→ms.Perm ns→ms.Pairwise (·≤·)→P (.done (.ret .none)) { s with heap:=sortedHeap s.heap a vs out }) :
   wpAny (model prog w) A (Builtin.«list.sort» ⟨[.ref a],[]⟩) P E s:=by
 rcases Nat.lt_or_ge vs.length 64 with c | c
 · exact list_sort_tree at0 hI c h
 · exact qkH at0 hI c hz h
theorem sorted_any {l:Addr} {vs:List Value} {ns:List Int} {Q:Value→Shared→Prop} (hl:s.heap.IsList l vs.toArray) (hI:IntsAre vs ns) (hz:vs.length≤1000000)
   (h:∀(out:Array Value) (ms:List Int),IntsAre out.toList ms→ms.Perm ns→ms.Pairwise (·≤·)→Q (.ref (s.heap.objs.size+1)) { s with heap:=sortedAll s.heap vs out }) :
   wpAny (model prog w) A (call (.builtin "sorted") [.ref l]) Q E s:=by
 have lim:vs.length≤sizeLine:=by rw [sizeLine_eq];omega
 refine Calls.call_function_entry kind_sorted plain_sorted entry_sorted (args_sorted1 _) (wpAny_bind (m:=checkCount "sorted" 1 1 _) (wpAny_pure (wpAny_bind (collect_list hl (wpAny_bind (wpAny_newList ?_ lim)) lim))))
 have e:((s.heap.push (seqObj "list" #[] 0)).update s.heap.objs.size (Obj.mapSeq (·++vs.toArray))).objs.size=s.heap.objs.size+1:=by rw [Heap.size_update];exact size_push' _ _
 have at0:(((s.heap.push (seqObj "list" #[] 0)).update s.heap.objs.size (Obj.mapSeq (·++vs.toArray))).push (seqObj "list" vs.toArray 0)).get? (s.heap.objs.size+1)=some (seqObj "list" vs.toArray 0):=e▸Heap.get?_push_size _ rfl
 dsimp only
 rw [e]
 exact wpAny_bind (wpAny_holding (wpAny_call_entry slot_list_sort ⟨_,at0,rfl⟩ entry_list_sort (sort_any at0 hI hz fun out ms m1 m2 m3=>⟨_,rfl,wpAny_pure ⟨_,rfl,h out ms m1 m2 m3⟩⟩) (args_list_sort _)))
end
end Tim
namespace STb
open PySem PySem.SetTable PyProof.Rows
section
variable {prog:Program} {w:World} {A:Around} {E:Value→Shared→Prop} {s:Shared} {I S:Addr}
theorem qj3 {ns:List Int} {Q:Value→Shared→Prop} (hh:A.handled=none) (r:RS prog w s.heap S ns) (hbig:ns.length≤100000)
   (h:∀(l:Addr) (vs:List Value) (ms:List Int) (n:Nat) (s':Shared),IntsAre vs ms→ms.Perm ns→ms.Pairwise (·≤·)→s.heap.objs.size≤l→s'.heap.get? l=some { cls := .type "list",data := .seq vs.toArray n } →
     (∀b o,s.heap.get? b=some o→s'.heap.get? b=some o)→s'.gens=s.gens→s'.os=s.os→Q (.ref l) s') :
   wpAny (model prog w) A (call (.builtin "sorted") [.ref S]) Q E s:=by
 refine Calls.call_function_entry kind_sorted plain_sorted entry_sorted (args_sorted1 _) ?_
 unfold Builtin.«sorted»
 refine wpAny_bind (m:=checkCount "sorted" 1 1 _) (wpAny_pure ?_)
 have hhs:∀{A':Around},A'.handled=A.handled→A'.handled=none:=fun e=>e.trans hh
 refine wpAny_bind (qiQ (by first | exact hh | simp [hh]) r fun s1 vs ms hi hp kp szl eg eo=>?_)
 have hv:vs.length≤1000000:=by
   have e1:=hi.length
   have e2:=hp.length_eq
   omega
 have hz:vs.length≤sizeLine:=Nat.le_trans hv (by decide)
 refine wpAny_bind (wpAny_newList ?_ hz)
 have g1:(s1.heap.push (seqObj "list" vs.toArray 0)).get? s1.heap.objs.size=some (seqObj "list" vs.toArray 0):=Heap.get?_push_size _ rfl
 refine wpAny_bind (wpAny_holding (wpAny_call_entry slot_list_sort ⟨_,g1,rfl⟩ entry_list_sort (Tim.sort_any g1 hi hv fun out ns' a1 a2 a3=>⟨_,rfl,?_⟩) (args_list_sort _)))
 obtain ⟨e,he⟩:∃e,(sortedHeap (s1.heap.push (seqObj "list" vs.toArray 0)) s1.heap.objs.size vs out).get? s1.heap.objs.size=some (seqObj "list" out e):=sortedHeap_at g1
 have hle:s.heap.objs.size≤s1.heap.objs.size:=Nat.le_of_lt szl
 refine wpAny_pure ⟨_,rfl,h _ out.toList ns' e _ a1 (a2.trans hp) a3 hle (by rw [Array.toArray_toList];exact he) (fun b o q=>?_) eg eo⟩
 have q1:=kp b o q
 have hb:b<s1.heap.objs.size:=Heap.lt_size q1
 show (sortedHeap (s1.heap.push (seqObj "list" vs.toArray 0)) s1.heap.objs.size vs out).get? b=some o
 rw [sortedHeap_old (Nat.ne_of_lt hb) (by rw [size_push'];exact Nat.lt_succ_of_lt hb)]
 exact Heap.get?_push_of_some _ q1
end
end STb
namespace L2
open PySem PySem.Spec PyProof.Rows STb
def qmd (P:Program) (w:World) (a:Addr) (ns:List Int):HO := .ext fun h=>RS P w h a ns
def qdF (ns:List Int):List Int:=ns.foldl qdo []
theorem qft (ns:List Int):qco (fun i=>ns.getD i 0) ns.length=qdF ns:=by
 unfold qco qdF
 congr 1
 refine List.ext_getElem (by simp) fun i h1 h2=>?_
 have:i<ns.length:=by simpa using h1
 simp [List.getD,this]
theorem qcJ {ns:List Int} {k:Int}:k∈qdF ns↔k∈ns:=by
 have key:∀(l acc:List Int),k∈l.foldl qdo acc↔k∈acc∨k∈l:=fun l=>by
   induction l with
   | nil=>intro acc;simp
   | cons x r ih =>
     intro acc
     rw [List.foldl_cons,ih,qhi,List.mem_cons,or_assoc]
 rw [qdF,key]
 simp
theorem qdh (ns:List Int):(qdF ns).Nodup:=by
 have key:∀(l acc:List Int),acc.Nodup→(l.foldl qdo acc).Nodup:=fun l=>by
   induction l with
   | nil=>intro acc h;exact h
   | cons x r ih=>intro acc h;exact ih _ (qg8 h)
 exact key ns [] List.nodup_nil
theorem qcF (ns:List Int):(qdF ns).length≤ns.length:=by
 rw [←qft]
 exact qfO _ _
theorem qeU (val:Nat→Int):∀i,(qco val i).Nodup
 | 0=>by simp [qco]
 | i+1=>by
   rw [qcZ]
   exact qg8 (qeU val i)
theorem qiN:∀(n:Nat) (L:List Nat),L.Nodup→(∀x∈L,x<n)→L.length≤n
 | 0,L,_,h=>by
   cases L with
   | nil=>exact Nat.le_refl _
   | cons a r=>exact absurd (h a (by simp)) (by omega)
 | n+1,L,hn,h=>by
   by_cases hm:n∈L
   · have h1:=qiN n (L.erase n) (hn.erase n) fun x hx=>by
       obtain ⟨h2,h3⟩:=hn.mem_erase_iff.mp hx
       have:=h x h3
       omega
     rw [List.length_erase_of_mem hm] at h1
     omega
   · have:=qiN n L hn fun x hx=>by
       have:=h x hx
       have:x≠n:=fun z=>hm (z▸hx)
       omega
     omega
theorem qqQ {L:List Int} (hn:L.Nodup) (h:∀z∈L,0≤z∧z<1000):L.length≤1000:=by
 have:=qiN 1000 (L.map Int.toNat) (by
   unfold List.Nodup
   rw [List.pairwise_map]
   refine List.Pairwise.imp_of_mem (fun {a b} ha hb e=>?_) hn
   have:=h a ha
   have:=h b hb
   omega) fun x hx=>by
   obtain ⟨z,hz,rfl⟩:=List.mem_map.mp hx
   have:=h z hz
   omega
 simpa using this
section
variable {X:Cx} {P:Program} {w:World} {K:PySem.W.Frag}
def qpD (P:Program) (w:World) (K:PySem.W.Frag):List V→Hp→VK→Prop:=fun xs H Q=>∃(p:Addr) (ns:List Int),xs=[.ref p]∧SqL K H p (ns.map V.int)∧(ns.length≤1000∨∀z∈ns,0≤z∧z<1000)∧∀a,H a=none→Q (.ref a) (upd H a (qmd P w a (qdF ns)))
theorem qhZ (hP:X.prog=P) (hw:X.w=w) (hK:X.K=K) (hc:X.calm=true):qcC X (.type "set") (qpD P w K):=by
 subst hP hw hK
 intro pins s σ H xs us Q I r h
 obtain ⟨p,ns,rfl,hq,hl,q⟩:=h
 obtain ⟨u,rfl,ru⟩:=qeC r
 cases ru
 obtain ⟨its,rv,pl,hz⟩:=I.list hq
 have hi:IntsAre its ns:=qf7 rv
 have hle:=hi.length
 have few:∀i,i≤its.toArray.size→(qco (fun i=>ns.getD i 0) i).length+1<scanBound:=fun i hi'=>by
   show _<4096
   rw [List.size_toArray] at hi'
   rcases hl with hl | hl
   · have:=qfO (fun i=>ns.getD i 0) i
     omega
   · have h1:∀i,i≤ns.length→(qco (fun i=>ns.getD i 0) i).Nodup:=fun i _=>qeU _ i
     have h2:=qqQ (h1 i (by omega)) fun z hz=>by
       obtain ⟨j,hj,rfl⟩:=(qhP _ _ _).mp hz
       have hj2:j<ns.length:=by omega
       rw [List.getD_eq_getElem?_getD,List.getElem?_eq_getElem hj2]
       exact hl _ (List.getElem_mem hj2)
     omega
 refine qk6 (I.ok.hd hc) pl.isList (by simpa using hi) few fun h' tk rs kp=>?_
 have em:qco (fun i=>ns.getD i 0) its.toArray.size=qdF ns:=by
   have e:its.toArray.size=ns.length:=by simp [hle]
   rw [e,qft]
 rw [em] at rs
 refine ⟨.ref _,_,I.laid (a:=s.heap.objs.size) (o:=qmd X.prog X.w s.heap.objs.size (qdF ns)) (t':=tk) (fun b o e=>kp b o (Heap.lt_size e) e) (Nat.le_refl _) ⟨rs,?_,fun h1 h2 r1 k=>r1.keep k⟩,rfl,q _ I.fresh⟩
 obtain ⟨es,ep,t,e,_⟩:=rs
 exact ⟨_,e⟩
def qq8 (P:Program) (w:World) (K:PySem.W.Frag):List V→Hp→VK→Prop:=fun xs H Q=>∃(p:Addr) (ns:List Int),xs=[.ref p]∧SqL K H p (ns.map V.int)∧ns.length≤1000∧∀a,H a=none→Q (.ref a) (upd H a (qmd P w a (qdF ns)))
theorem qhb (hP:X.prog=P) (hw:X.w=w) (hK:X.K=K) (hc:X.calm=true):qcC X (.type "set") (qq8 P w K):=by
 intro pins s σ H xs us Q I r h
 obtain ⟨p,ns,e,hq,hl,q⟩:=h
 exact qhZ hP hw hK hc pins s σ H xs us Q I r ⟨p,ns,e,hq,.inl hl,q⟩
def qqH (P:Program) (w:World):List V→Hp→VK→Prop:=fun xs H Q=>∃(a:Addr) (ns:List Int),xs=[.ref a]∧H a=some (qmd P w a ns)∧ns.length≤100000∧∀(l:Addr) (ms:List Int),H l=none→ms.Perm ns→ms.Pairwise (·≤·)→Q (.ref l) (upd H l (.lst (ms.map V.int)))
theorem qjV (hP:X.prog=P) (hw:X.w=w) (hc:X.calm=true):qcC X (.builtin "sorted") (qqH P w):=by
 subst hP hw
 intro pins s σ H xs us Q I r h
 obtain ⟨a,ns,rfl,ha,hl,q⟩:=h
 obtain ⟨u,rfl,ru⟩:=qeC r
 cases ru
 have rs:RS X.prog X.w s.heap a ns:=(I.hok a _ ha).1
 refine qj3 (I.ok.hd hc) rs hl fun l vs ms n s' hi hp pw hle g kp eg eo=>?_
 obtain ⟨h',g',d',t',o'⟩:=s'
 have e1:o'=s.os:=eo
 have e2:g'=s.gens:=eg
 subst e1 e2
 have hn:H l=none:=I.hok.fresh hle
 have e3:=hi.length
 have e4:=hp.length_eq
 have hok:=I.hok.laid (h':=h') (a:=l) (o := .lst (ms.map V.int)) kp hle ⟨by rw [List.length_map];exact Nat.le_trans (show ms.length≤100000 by omega) (by decide),vs,n,qdV hi,g⟩
 refine ⟨.ref l,_,I.call' (s':=⟨h',s.gens,d',t',s.os⟩) (ch:=[]) rfl (Un.laid kp hle hn) hok I.bare (fun _ z=>nomatch z),rfl,q l ms hn hp pw⟩
def qqF (K:PySem.W.Frag):List V→Hp→VK→Prop:=fun xs H Q=>∃(p:Addr) (ns:List Int),xs=[.ref p]∧SqL K H p (ns.map V.int)∧ns.length≤100000∧∀(l:Addr) (ms:List Int),H l=none→ms.Perm ns→ms.Pairwise (·≤·)→Q (.ref l) (upd H l (.lst (ms.map V.int)))
theorem qjW (hK:X.K=K):qcC X (.builtin "sorted") (qqF K):=by
 subst hK
 intro pins s σ H xs us Q I r h
 obtain ⟨p,ns,rfl,hq,hl,q⟩:=h
 obtain ⟨u,rfl,ru⟩:=qeC r
 cases ru
 obtain ⟨its,rv,pl,hz⟩:=I.list hq
 have hi:IntsAre its ns:=qf7 rv
 have hle:=hi.length
 refine Tim.sorted_any pl.isList hi (by omega) fun out ms a1 a2 a3=>?_
 obtain ⟨e,he⟩:=sortedAll_at s.heap its out
 have hn:H (s.heap.objs.size+1)=none:=I.hok.fresh (Nat.le_succ _)
 have e4:=a2.length_eq
 refine ⟨.ref _,_,I.laid (a:=s.heap.objs.size+1) (o := .lst (ms.map V.int)) (t':=s.toks) (fun b o z=>sortedAll_old z) (Nat.le_succ _) ⟨by rw [List.length_map];exact Nat.le_trans (show ms.length≤100000 by omega) (by decide),out.toList,e,qdV a1,by rw [Array.toArray_toList];exact he⟩,rfl,q _ ms hn a2 a3⟩
def qqx (P:Program) (w:World) (K:PySem.W.Frag):List V→Hp→VK→Prop:=fun xs H Q=>∃(a:Addr) (ns:List Int),xs=[.ref a]∧(SqL K H a (ns.map V.int)∨H a=some (qmd P w a ns))∧ns.length≤100000 ∧
 ∀(l:Addr) (ms:List Int),H l=none→ms.Perm ns→ms.Pairwise (·≤·)→Q (.ref l) (upd H l (.lst (ms.map V.int)))
theorem qcV (hP:X.prog=P) (hw:X.w=w) (hK:X.K=K) (hc:X.calm=true):qcC X (.builtin "sorted") (qqx P w K):=by
 intro pins s σ H xs us Q I r h
 obtain ⟨a,ns,rfl,h1 | h1,hl,q⟩:=h
 · exact qjW hK pins s σ H _ us Q I r ⟨a,ns,rfl,h1,hl,q⟩
 · exact qjV hP hw hc pins s σ H _ us Q I r ⟨a,ns,rfl,h1,hl,q⟩
end
end L2
namespace L2
open PySem PySem.Spec PyProof.Rows
theorem qcG (a b:Nat):Builtin.bitAnd (a:Int) (b:Int)=((a&&&b:Nat):Int):=by
 rw [bitAnd_pp (by omega) (by omega)]
 rfl
theorem qkQ (a b:Nat):Builtin.bitOr (a:Int) (b:Int)=((a|||b:Nat):Int):=by
 rw [bitOr_and,qcG]
 have h:∀n (a b:Nat),a<2^n→a+b=(a|||b)+(a&&&b):=by
   intro n
   induction n with
   | zero =>
     intro a b ha
     have:a=0:=by omega
     subst this
     simp
   | succ n ih =>
     intro a b ha
     have q:=ih (a/2) (b/2) (by rw [Nat.pow_succ] at ha;omega)
     have e1:(a|||b)/2=a/2|||b/2:=Nat.or_div_two
     have e2:(a&&&b)/2=a/2&&&b/2:=Nat.and_div_two
     have m1:(a|||b)%2=if a%2=1∨b%2=1 then 1 else 0:=by
       have:=Nat.testBit_or a b 0
       simp only [Nat.testBit_zero] at this
       rcases Nat.mod_two_eq_zero_or_one (a|||b) with z | z<;>rcases Nat.mod_two_eq_zero_or_one a with z1 | z1<;>rcases Nat.mod_two_eq_zero_or_one b with z2 | z2<;>simp [z,z1,z2] at this ⊢
     have m2:(a&&&b)%2=if a%2=1∧b%2=1 then 1 else 0:=by
       have:=Nat.testBit_and a b 0
       simp only [Nat.testBit_zero] at this
       rcases Nat.mod_two_eq_zero_or_one (a&&&b) with z | z<;>rcases Nat.mod_two_eq_zero_or_one a with z1 | z1<;>rcases Nat.mod_two_eq_zero_or_one b with z2 | z2<;>simp [z,z1,z2] at this ⊢
     rw [←e1,←e2] at q
     clear ih e1 e2 ha
     generalize (a|||b)=x at q m1 ⊢
     generalize (a&&&b)=y at q m2 ⊢
     split at m1<;>split at m2<;>omega
 have:=h (a+1) a b (Nat.lt_of_lt_of_le (Nat.lt_succ_self a) (Nat.le_of_lt Nat.lt_two_pow_self))
 omega
theorem qlA (ns:List Int):(ns.map V.int).all qbU=true:=by
 rw [List.all_eq_true]
 intro x hx
 obtain ⟨z,_,rfl⟩:=List.mem_map.mp hx
 rfl
theorem qgv (k:Nat):(2:Int)^k=((2^k:Nat):Int):=by
 rw [Int.natCast_pow]
 rfl
end L2
namespace L2
open PySem PySem.Spec PyProof.Rows
section
variable {X:Cx} {K:PySem.W.Frag}
def qtf (K:PySem.W.Frag) (te:TE):TE:=fun σ H Q=>te σ H fun x H1=>∃a xs,x = .ref a∧SqL K H1 a xs∧∀p,H1 p=none→Q (.ref p) (upd H1 p (.lst xs.reverse))
def Itv (K:PySem.W.Frag) (a:Addr) (xs:List V):It:=⟨fun i H=>SqL K H a xs∧i<xs.length,fun i H x H'=>H'=H∧xs.reverse[i]?=some x,fun i H=>SqL K H a xs∧xs.length≤i⟩
def qs9 (K:PySem.W.Frag) (ta:TA):TI:=fun σ H R=>ta σ H fun vs H1=>∃a xs,vs=[.ref a]∧SqL K H1 a xs∧R (Itv K a xs) H1
end
section
variable {K:PySem.W.Frag} {g:TG} {tb:TS} {D:qf0} {σ:St} {H:Hp} {a:Addr} {xs:List V} {ta:TA}
theorem qpf:qoc (qs9 K ta) g tb D σ H↔ta σ H fun vs H1=>∃a xs,vs=[.ref a]∧SqL K H1 a xs∧qfW (Itv K a xs) g tb D σ H1:=Iff.rfl
end
end L2
namespace L2
open PySem PySem.Spec PyProof.Rows
abbrev nI (fs:List Nat):List Int:=fs.map fun (n:Nat)=>(n:Int)
abbrev nV (fs:List Nat):List V:=(nI fs).map V.int
theorem qbV (fs:List Nat):(nV fs).length=fs.length:=by simp
theorem qoa {fs:List Nat} {i:Nat} {x:V} (h:(nV fs)[i]?=some x):∃a,fs[i]?=some a∧x = .int (a:Nat):=by
 rw [List.getElem?_map,List.getElem?_map] at h
 cases e:fs[i]? with
 | none=>rw [e] at h;cases h
 | some a=>rw [e] at h;cases h;exact ⟨a,rfl,rfl⟩
theorem qoZ {fs:List Nat} {i a:Nat} (h:fs[i]?=some a):(nV fs)[i]?=some (.int (a:Nat)):=by
 rw [List.getElem?_map,List.getElem?_map,h]
 rfl
theorem qot {fs:List Nat} {x:V} (h:x∈nV fs):∃a∈fs,x = .int (a:Nat):=by
 obtain ⟨z,hz,rfl⟩:=List.mem_map.mp h
 obtain ⟨a,ha,rfl⟩:=List.mem_map.mp hz
 exact ⟨a,ha,rfl⟩
theorem qio (fs:List Nat) (a:Nat):nV fs++[V.int (a:Nat)]=nV (fs++[a]):=by simp
theorem qhS (fs gs:List Nat):nV fs++nV gs=nV (fs++gs):=by simp
theorem qq0 {a b:List Nat}:nI a=nI b↔a=b:=by
 constructor
 · intro h
   have:(nI a).map Int.toNat=(nI b).map Int.toNat:=by rw [h]
   rw [nI,nI,List.map_map,List.map_map,show (Int.toNat ∘ fun (n:Nat)=>(n:Int))=id from funext fun n=>Int.toNat_natCast n,List.map_id,List.map_id] at this
   exact this
 · rintro rfl;rfl
theorem qn6 (a b:List Nat):qgi (nV a) (nV b)=decide (a=b):=by
 rw [qk8]
 exact decide_eq_decide.mpr qq0
theorem qk5 (fs:List Nat):(nV fs).all qbU=true:=qlA _
theorem qkK {ms:List Int} (h:∀z∈ms,0≤z):nI (ms.map Int.toNat)=ms:=by
 rw [nI,List.map_map]
 conv=>rhs;rw [←List.map_id ms]
 refine List.map_congr_left fun z hz=>?_
 have:=h z hz
 show ((z.toNat:Nat):Int)=z
 omega
def sd (fs:List Nat):List Nat:=(List.range (fs.foldl max 0+1)).filter fun x=>decide (x∈fs)
theorem qqJ (fs:List Nat):∀z,z≤fs.foldl max z∧∀x∈fs,x≤fs.foldl max z:=by
 induction fs with
 | nil=>intro z;exact ⟨Nat.le_refl _,fun x hx=>by cases hx⟩
 | cons a fs ih =>
   intro z
   obtain ⟨h1,h2⟩:=ih (max z a)
   rw [List.foldl_cons]
   refine ⟨by omega,fun x hx=>?_⟩
   rcases List.mem_cons.mp hx with rfl | hx
   · omega
   · exact h2 x hx
theorem qcw {fs:List Nat} {x:Nat}:x∈sd fs↔x∈fs:=by
 unfold sd
 rw [List.mem_filter,List.mem_range,decide_eq_true_eq]
 exact ⟨fun h=>h.2,fun h=>⟨by have:=(qqJ fs 0).2 x h;omega,h⟩⟩
theorem qaU (fs:List Nat):(sd fs).Pairwise (· < ·):=List.pairwise_lt_range.sublist List.filter_sublist
theorem qmB {fs gs:List Nat} (h:gs.Pairwise (· < ·)) (e:∀x,x∈gs↔x∈fs):gs=sd fs:=Fam.rise_ext h (qaU fs) fun x=>(e x).trans qcw.symm
theorem qly {fs:List Nat} (h:fs.Pairwise (· < ·)):sd fs=fs:=(qmB h fun _=>Iff.rfl).symm
theorem qcj {fs:List Nat} {ms:List Int} (h1:ms.Perm (qdF (nI fs))) (h2:ms.Pairwise (·≤·)):ms=nI (sd fs):=by
 have nn:∀z∈ms,0≤z:=fun z hz=>by
   have:=qcJ.mp (h1.mem_iff.mp hz)
   obtain ⟨a,_,rfl⟩:=List.mem_map.mp this
   omega
 have e:=qkK nn
 rw [←e]
 congr 1
 have nd:ms.Nodup:=h1.nodup_iff.mpr (qdh _)
 refine qmB ?_ fun x=>?_
 · rw [List.pairwise_map]
   have:=List.pairwise_iff_getElem.mp h2
   have nd':=List.pairwise_iff_getElem.mp nd
   rw [List.pairwise_iff_getElem]
   intro i j hi hj hij
   have a1:=this i j hi hj hij
   have a2:ms[i]≠ms[j]:=nd' i j hi hj hij
   have a3:=nn ms[i] (List.getElem_mem _)
   omega
 · rw [List.mem_map]
   constructor
   · rintro ⟨z,hz,rfl⟩
     have:=qcJ.mp (h1.mem_iff.mp hz)
     obtain ⟨a,ha,rfl⟩:=List.mem_map.mp this
     simpa using ha
   · intro hx
     exact ⟨x,h1.mem_iff.mpr (qcJ.mpr (List.mem_map.mpr ⟨x,hx,rfl⟩)),by simp⟩
theorem qlj {fs:List Nat} {ms:List Int} (hn:fs.Nodup) (h1:ms.Perm (nI fs)) (h2:ms.Pairwise (·≤·)):ms=nI (sd fs):=by
 refine qcj (h1.trans ?_) h2
 have:(nI fs).Nodup:=by
   rw [nI,List.Nodup,List.pairwise_map]
   exact hn.imp fun h e=>h (by omega)
 refine (List.perm_ext_iff_of_nodup this (qdh _)).mpr fun z=>?_
 rw [qcJ]
end L2
namespace L2
open PySem PySem.Spec PyProof.Rows
section
variable {K:PySem.W.Frag} {g:TG} {σ:St} {H:Hp} {a:Addr} {xs:List V} {nt:Nat} {caps:List Nat} {tt:TT} {te:TE} {Q:VK}
theorem ql3 (Pv:Nat→List V→Hp→Prop) (h0:Pv 0 [] H) (hz:xs.length≤sizeLine) (hl:∀i ys H1,i≤xs.length→Pv i ys H1→SqL K H1 a xs∧ys.length≤i)
   (hs:∀i x ys H1,xs[i]?=some x→Pv i ys H1→∀(R:VK) (R':Hp→Prop),(∀y H2,Pv (i+1) (ys++[y]) H2→R y H2)→(∀H2,Pv (i+1) ys H2→R' H2) →
     g x (qcf nt caps σ) H1 fun σ4 H4=>tt σ4 H4 fun b H5=>if b=true then te σ4 H5 R else R' H5)
   (hd:∀ys H1,Pv xs.length ys H1→∀p,H1 p=none→Q (.ref p) (upd H1 p (.lst ys))):qdL (Itl K a) nt caps g tt te σ H Q:=by
 refine ⟨fun i m ys H1=>m=xs.length-i∧i≤xs.length∧Pv i ys H1,⟨_,rfl,Nat.zero_le _,h0⟩,?_⟩
 rintro i m ys H2 ⟨rfl,hi,p⟩
 obtain ⟨q,hy⟩:=hl i ys H2 hi p
 by_cases hlt:i<xs.length
 · refine .inr ⟨⟨xs,xs[i],q,by simp [hlt]⟩,by omega,fun x H3 y=>?_⟩
   obtain ⟨e,y⟩:=y
   subst e
   exact hs i x ys _ (y xs q) p _ _ (fun v H4 w=>⟨xs.length-(i+1),by omega,rfl,hlt,w⟩) fun H4 w=>⟨xs.length-(i+1),by omega,rfl,hlt,w⟩
 · obtain rfl:i=xs.length:=by omega
   exact .inl ⟨⟨xs,q,Nat.le_refl _⟩,by omega,hd ys H2 p⟩
theorem qrJ {lo:Int} {n:Nat} (Pv:Nat→List V→Hp→Prop) (h0:Pv 0 [] H) (hz:n≤sizeLine) (hl:∀i ys H1,i≤n→Pv i ys H1→ys.length≤i)
   (hs:∀i ys H1,i<n→Pv i ys H1→∀(R:VK) (R':Hp→Prop),(∀y H2,Pv (i+1) (ys++[y]) H2→R y H2)→(∀H2,Pv (i+1) ys H2→R' H2) →
     g (.int (lo+i)) (qcf nt caps σ) H1 fun σ4 H4=>tt σ4 H4 fun b H5=>if b=true then te σ4 H5 R else R' H5)
   (hd:∀ys H1,Pv n ys H1→∀p,H1 p=none→Q (.ref p) (upd H1 p (.lst ys))):qdL (Itr lo n) nt caps g tt te σ H Q:=by
 refine ⟨fun i m ys H1=>m=n-i∧i≤n∧Pv i ys H1,⟨_,rfl,Nat.zero_le _,h0⟩,?_⟩
 rintro i m ys H2 ⟨rfl,hi,p⟩
 have hy:=hl i ys H2 hi p
 by_cases hlt:i<n
 · refine .inr ⟨hlt,by omega,fun x H3 y=>?_⟩
   obtain ⟨e,y⟩:=y
   subst e y
   exact hs i ys _ hlt p _ _ (fun v H4 w=>⟨n-(i+1),by omega,rfl,hlt,w⟩) fun H4 w=>⟨n-(i+1),by omega,rfl,hlt,w⟩
 · obtain rfl:i=n:=by omega
   exact .inl ⟨Nat.le_refl _,by omega,hd ys H2 p⟩
theorem qdb {n:Nat} (c:Nat→Bool) (f:Nat→V) (hz:n≤100000)
   (hs:∀k,k<n→∀H1,Same H H1→∀(R:VK) (R':Hp→Prop),(c k=true→∀H2,Same H1 H2→R (f k) H2)→(c k=false→∀H2,Same H1 H2→R' H2) →
     g (.int (k:Nat)) (qcf nt caps σ) H1 fun σ4 H4=>tt σ4 H4 fun b H5=>if b=true then te σ4 H5 R else R' H5)
   (hd:∀H1 p,Same H H1→H1 p=none→Q (.ref p) (upd H1 p (.lst (((List.range n).filter c).map f)))):qdL (Itr 0 n) nt caps g tt te σ H Q:=by
 refine qrJ (fun i ys H1=>Same H H1∧ys=((List.range i).filter c).map f) ⟨Same.refl _,rfl⟩ (Nat.le_trans hz (by decide)) (fun i ys H1 _ h=>?_) (fun i ys H1 hi h R R' r1 r2=>?_) fun ys H1 h p hp=>?_
 · rw [h.2,List.length_map]
   exact Nat.le_trans (List.length_filter_le _ _) (by simp)
 · obtain ⟨sm,rfl⟩:=h
   rw [Int.zero_add]
   refine hs i hi H1 sm R R' (fun hc H2 s2=>r1 _ _ ⟨sm.trans s2,?_⟩) fun hc H2 s2=>r2 _ ⟨sm.trans s2,?_⟩
   · rw [List.range_succ,List.filter_append,List.map_append];simp [hc]
   · rw [List.range_succ,List.filter_append,List.map_append];simp [hc]
 · rw [h.2]
   exact hd H1 p h.1 hp
theorem qmh {fs:List V} (c:V→Bool) (f:V→V) (hq:SqL K H a fs) (hz:fs.length≤100000)
   (hs:∀x∈fs,∀H1,Same H H1→∀(R:VK) (R':Hp→Prop),(c x=true→∀H2,Same H1 H2→R (f x) H2)→(c x=false→∀H2,Same H1 H2→R' H2) →
     g x (qcf nt caps σ) H1 fun σ4 H4=>tt σ4 H4 fun b H5=>if b=true then te σ4 H5 R else R' H5)
   (hd:∀H1 p,Same H H1→H1 p=none→Q (.ref p) (upd H1 p (.lst ((fs.filter c).map f)))):qdL (Itl K a) nt caps g tt te σ H Q:=by
 refine ql3 (xs:=fs) (fun i ys H1=>Same H H1∧ys=((fs.take i).filter c).map f) ⟨Same.refl _,rfl⟩ (Nat.le_trans hz (by decide)) (fun i ys H1 hi h=>⟨h.1.seq hq,?_⟩) (fun i x ys H1 hx h R R' r1 r2=>?_) fun ys H1 h p hp=>?_
 · rw [h.2,List.length_map]
   exact Nat.le_trans (List.length_filter_le _ _) (by rw [List.length_take];omega)
 · obtain ⟨sm,rfl⟩:=h
   have ex:=take_succ_filter c fs i x hx
   refine hs x (List.mem_of_getElem? hx) H1 sm R R' (fun hc H2 s2=>r1 _ _ ⟨sm.trans s2,?_⟩) fun hc H2 s2=>r2 _ ⟨sm.trans s2,?_⟩
   · rw [ex,hc,if_pos rfl,List.map_append];rfl
   · rw [ex,hc,if_neg Bool.false_ne_true,List.append_nil]
 · rw [h.2,List.take_length]
   exact hd H1 p h.1 hp
theorem qer {fs:List Nat} (c:Nat→Bool) (f:Nat→V) (hq:SqL K H a (nV fs)) (hz:fs.length≤100000)
   (hs:∀x∈fs,∀H1,Same H H1→∀(R:VK) (R':Hp→Prop),(c x=true→∀H2,Same H1 H2→R (f x) H2)→(c x=false→∀H2,Same H1 H2→R' H2) →
     g (.int (x:Nat)) (qcf nt caps σ) H1 fun σ4 H4=>tt σ4 H4 fun b H5=>if b=true then te σ4 H5 R else R' H5)
   (hd:∀H1 p,Same H H1→H1 p=none→Q (.ref p) (upd H1 p (.lst ((fs.filter c).map f)))):qdL (Itl K a) nt caps g tt te σ H Q:=by
 refine qmh (fs:=nV fs) (fun v=>match v with | .int i=>c i.toNat | _=>false) (fun v=>match v with | .int i=>f i.toNat | _ => .non) hq (by rw [qbV];exact hz) (fun x hx H1 sm R R' r1 r2=>?_) fun H1 p sm hp=>?_
 · obtain ⟨b,hb,rfl⟩:=qot hx
   refine hs b hb H1 sm R R' (fun hc=>?_) fun hc=>?_
   · have:=r1 (by simpa using hc)
     simpa using this
   · exact r2 (by simpa using hc)
 · have e:((nV fs).filter (fun v=>match v with | .int i=>c i.toNat | _=>false)).map (fun v=>match v with | .int i=>f i.toNat | _ => .non)=(fs.filter c).map f:=by
     rw [nV,nI,List.map_map,List.filter_map,List.map_map]
     rfl
   rw [e]
   exact hd H1 p sm hp
end
theorem qaH {n:Nat} (h:n≤100000):n≤sizeLine:=Nat.le_trans h (by decide)
theorem qej {n:Nat} (h:n≤100000):n<sizeLine:=Nat.lt_of_le_of_lt h (by decide)
theorem qnW {b:Bool} {A B:Prop} (h1:b=true→A) (h2:b=false→B):if b=true then A else B:=by
 cases b
 · exact qeO (h2 rfl)
 · exact qiH (h1 rfl)
theorem qgn {P A B:Prop} [Decidable P] {b:Bool} (e:P↔b=true) (h1:b=true→A) (h2:b=false→B):if P then A else B:=by
 by_cases c:P
 · rw [if_pos c];exact h1 (e.mp c)
 · rw [if_neg c];exact h2 (by cases b with | false=>rfl | true=>exact absurd (e.mpr rfl) c)
theorem qaw {H H':Hp} {p:Addr} {o:HO} (e:upd H p o=H'):H' p=some o:=e▸qak
theorem qaq {H H':Hp} {p:Addr} {o:HO} (e:upd H p o=H') (h:H p=none):Same H H':=e▸Same.new h
theorem qeo {H:Hp} {p q:Addr} {o:HO} (h:H p=none) (hq:H q=some o):q≠p:=fun z=>by rw [z,h] at hq;cases hq
theorem qaB {H H':Hp} {p:Addr} (s:Same H H') (h:H' p=none):H p=none:=by
 cases e:H p with
 | none=>rfl
 | some o=>rw [s _ _ e] at h;cases h
theorem qjN {H:Hp} {p:Addr} {o:HO} (h:H p=some o):H=upd H p o:=funext fun x=>by
 by_cases c:x=p
 · rw [c,qak,h]
 · rw [qax c]
theorem qpr (fs:List Nat) {n:Nat} (h:fs.length≤n):(sd fs).length≤n:=by
 have nd:(nI (sd fs)).Nodup:=by
   rw [nI,List.Nodup,List.pairwise_map]
   exact (qaU fs).imp fun h e=>by omega
 have p:(nI (sd fs)).Perm (qdF (nI fs)):=(List.perm_ext_iff_of_nodup nd (qdh _)).mpr fun z=>by
   rw [qcJ,List.mem_map,List.mem_map]
   exact ⟨fun ⟨x,hx,e⟩=>⟨x,qcw.mp hx,e⟩,fun ⟨x,hx,e⟩=>⟨x,qcw.mpr hx,e⟩⟩
 have e1:=p.length_eq
 have e2:=qcF (nI fs)
 simp at e1 e2
 omega
theorem qjE (n:Nat) (c:Nat→Bool):((List.range n).filter c).map (fun k=>V.int (k:Nat))=nV ((List.range n).filter c):=by simp
theorem qqh (fs:List Nat):fs.map (fun k=>V.int (k:Nat))=nV fs:=by simp
end L2
namespace L2
open PySem PySem.Spec PyProof.Rows
theorem qnR (xs:List V) (n:Nat):qmw xs none (some (n:Int))=xs.take n:=by
 unfold qmw
 rw [HT.sIx_nat]
 show (xs.drop 0).take (min n xs.length-0)=_
 rw [List.drop_zero,Nat.sub_zero,List.take_eq_take_iff]
 omega
theorem qgw (xs:List V) (n:Nat):qmw xs (some (n:Int)) none=xs.drop n:=by
 unfold qmw
 rw [HT.sIx_nat]
 show (xs.drop (min n xs.length)).take (xs.length-min n xs.length)=_
 rcases Nat.lt_or_ge n xs.length with z | z
 · rw [Nat.min_eq_left (Nat.le_of_lt z),←List.length_drop,List.take_length]
 · rw [Nat.min_eq_right z,List.drop_eq_nil_of_le z,List.drop_eq_nil_of_le (Nat.le_refl _)]
   simp
end L2
namespace L2
open PySem PySem.Spec PyProof.Rows
section
variable {K:PySem.W.Frag} {g:TG} {tb:TS} {D:qf0} {σ:St} {H:Hp} {a:Addr} {xs:List V} {c:TT}
theorem qhg {n:Nat} (Pv:Nat→St→Hp→Prop) (h0:Pv 0 σ H)
   (hs:∀i σ H,i<n→Pv i σ H→∀N:St→Hp→Prop,(∀σ' H',Pv (i+1) σ' H'→N σ' H')→g (.int (i:Nat)) σ H fun σ2 H2=>tb { D with nx:=N,ct:=N,bk:=D.nx } σ2 H2) (hd:∀σ H,Pv n σ H→D.nx σ H):qfW (Itr 0 n) g tb D σ H :=
 qsv Pv h0 (fun i σ H hi p=>by rw [Int.zero_add];exact hs i σ H hi p _ fun _ _ q=>q) hd
theorem qhV (Pv:Nat→St→Hp→Prop) (h0:Pv 0 σ H) (hl:∀i σ H,i≤xs.length→Pv i σ H→SqL K H a xs)
   (hs:∀i x σ H,xs[i]?=some x→Pv i σ H→∀N:St→Hp→Prop,(∀σ' H',Pv (i+1) σ' H'→N σ' H')→g x σ H fun σ2 H2=>tb { D with nx:=N,ct:=N,bk:=D.nx } σ2 H2) (hd:∀σ H,Pv xs.length σ H→D.nx σ H):qfW (Itl K a) g tb D σ H :=
 qpC Pv h0 hl (fun i x σ H hx p=>hs i x σ H hx p _ fun _ _ q=>q) hd
theorem qfL {fs:List Nat} (Pv:Nat→St→Hp→Prop) (h0:Pv 0 σ H) (hl:∀i σ H,i≤fs.length→Pv i σ H→SqL K H a (nV fs))
   (hs:∀i b σ H,fs[i]?=some b→Pv i σ H→∀N:St→Hp→Prop,(∀σ' H',Pv (i+1) σ' H'→N σ' H')→g (.int (b:Nat)) σ H fun σ2 H2=>tb { D with nx:=N,ct:=N,bk:=D.nx } σ2 H2) (hd:∀σ H,Pv fs.length σ H→D.nx σ H):qfW (Itl K a) g tb D σ H :=
 qpC (xs:=nV fs) Pv h0 (fun i σ H hi p=>hl i σ H (by rwa [qbV] at hi) p) (fun i x σ H hx p=>by
   obtain ⟨b,hb,rfl⟩:=qoa hx
   exact hs i b σ H hb p _ fun _ _ q=>q) fun σ H p=>hd σ H (by rwa [qbV] at p)
theorem qrq (W:Nat→St→Hp→Prop) (m0:Nat) (h0:W m0 σ H)
   (hs:∀m σ H,W m σ H→∀(T:Hp→Prop),(∀H1,((∀N:St→Hp→Prop,(∀m' σ' H',m'<m→W m' σ' H'→N σ' H')→tb { D with nx:=N,ct:=N,bk:=D.nx } σ H1)→T H1))→c σ H fun b H1=>if b=true then T H1 else D.nx σ H1):qjP c tb D σ H:=by
 refine ⟨W,⟨m0,h0⟩,fun m σ H w=>?_⟩
 exact hs m σ H w (fun H1=>∃N:St→Hp→Prop,(∀σ' H',N σ' H'→∃m',m'<m∧W m' σ' H')∧tb { D with nx:=N,ct:=N,bk:=D.nx } σ H1) fun H1 h=>⟨fun σ' H'=>∃m',m'<m∧W m' σ' H',fun _ _ z=>z,h _ fun m' σ' H' l w'=>⟨m',l,w'⟩⟩
end
end L2
namespace L2
open PySem PySem.Spec PyProof.Rows
theorem ql1 (a k:Nat):Builtin.bitAnd ((a:Int)/2^((k:Nat):Int).toNat) 1=if a.testBit k=true then 1 else 0:=by
 have e:(a:Int)/2^((k:Nat):Int).toNat=((a/2^k:Nat):Int):=by rw [Int.toNat_natCast,qgv];rfl
 rw [e,show (1:Int)=((1:Nat):Int) from rfl,qcG,Nat.and_one_is_mod,Nat.testBit_eq_decide_div_mod_eq]
 by_cases c:a/2^k%2=1
 · simp [c]
 · have:a/2^k%2=0:=by omega
   simp [this]
theorem qpE (a k:Nat):decide (Builtin.bitAnd ((a:Int)/2^((k:Nat):Int).toNat) 1=1)=a.testBit k:=by
 rw [ql1]
 cases a.testBit k<;>rfl
theorem qoX (a k:Nat):decide (Builtin.bitAnd ((a:Int)/2^((k:Nat):Int).toNat) 1=0) = !a.testBit k:=by
 rw [ql1]
 cases a.testBit k<;>rfl
theorem qiG {a k:Nat}:Builtin.bitAnd ((a:Int)/2^((k:Nat):Int).toNat) 1=1↔a.testBit k=true:=by
 rw [←qpE,decide_eq_true_eq]
theorem qcs (k:Nat):(1:Int)*2^((k:Nat):Int).toNat=((2^k:Nat):Int):=by rw [Int.one_mul,Int.toNat_natCast,qgv]
end L2
namespace L2
open PySem PySem.Spec PyProof.Rows
inductive Deq (K:PySem.W.Frag) (H:Hp):Nat→V→V→Bool→Prop where
 | flat {n:Nat} {x y:V}:qbU x=true→qbU y=true→Deq K H n x y (eqV x y)
 | lst {n:Nat} {a b:Addr} {xs ys:List V} {e:Nat→Bool}:a≠b→SqL K H a xs→SqL K H b ys→xs.length=ys.length→(∀(j:Nat) (x y:V),xs[j]?=some x→ys[j]?=some y→Deq K H n x y (e j))→Deq K H (n+1) (.ref a) (.ref b) ((List.range xs.length).all e)
 | lstN {n:Nat} {a b:Addr} {xs ys:List V}:a≠b→SqL K H a xs→SqL K H b ys→xs.length≠ys.length→Deq K H (n+1) (.ref a) (.ref b) false
 | tup {n:Nat} {a b:Addr} {xs ys:List V} {e:Nat→Bool}:a≠b→SqT K H a xs→SqT K H b ys→(∀(j:Nat) (x y:V),xs[j]?=some x→ys[j]?=some y→Deq K H n x y (e j))→Deq K H (n+1) (.ref a) (.ref b) ((List.range (min xs.length ys.length)).all e&&xs.length==ys.length)
section
variable {X:Cx} {pins:List (Addr×Obj)} {σ:St} {H:Hp} {s:Shared} {K:PySem.W.Frag}
end
end L2
namespace L2
open PySem PySem.Spec PyProof.Rows
abbrev bV (t:List Bool):List V:=t.map V.bl
def tab (n:Nat) (f:Nat→Bool):List Bool:=(List.range n).map f
theorem qqD (t:List Bool):(bV t).length=t.length:=by simp
theorem qoW {n k:Nat} {f:Nat→Bool} (h:k<n):(tab n f)[k]?=some (f k):=by
 unfold tab
 rw [List.getElem?_map,List.getElem?_range h]
 rfl
theorem qr4 {t:List Bool} {i:Nat} {b:Bool} (h:t[i]?=some b):atI (bV t) (i:Int)=some (.bl b):=by
 have hl:=(List.getElem?_eq_some_iff.mp h).1
 unfold atI ixN
 rw [if_pos (by omega),if_pos (by rw [qqD];omega)]
 show (bV t)[(i:Int).toNat]?=_
 rw [Int.toNat_natCast,List.getElem?_map,h]
 rfl
theorem qks {n k:Nat} {f:Nat→Bool} (h:k<n):atI (bV (tab n f)) (k:Int)=some (.bl (f k)):=qr4 (qoW h)
theorem qpB {n:Nat} {f:Nat→Bool}:((List.range n).filter fun _=>true).map (fun k=>V.bl (f k))=bV (tab n f):=by
 rw [List.filter_eq_self.mpr fun _ _=>rfl,tab,bV,List.map_map]
 rfl
theorem qmS {a k:Nat}:Builtin.bitAnd ((a:Int)/2^((k:Nat):Int).toNat) 1=0↔(!a.testBit k)=true:=by
 have:=qoX a k
 rw [←this,decide_eq_true_eq]
end L2
namespace L2
open PySem PySem.Spec PyProof.Rows
section
variable {X:Cx} {es:List Expr} {t:TA} {te:TE}
theorem qbr {v j p} (ha:PE X (.Constant v j p) te) (hr:PA X es t):PA X (.Constant v j p::es) (qis te t):=qaa ha hr
inductive CI:List Expr→List Int→Prop
 | nil:CI [] []
 | cons {i:Int} {j:Nat} {p:Pos} {es:List Expr} {ns:List Int} (h:CI es ns):CI (.Constant (.int i) j p::es) (i::ns)
def qsc (ns:List Int):TA:=fun _ H Q=>Q (ns.map V.int) H
end
end L2
namespace L2
open PySem PySem.Spec PyProof.Rows
section
variable {X:Cx} {K:PySem.W.Frag}
theorem qq2 {T:String} {name:Str} {id:String} {r:V→List V→Hp→VK→Prop} {o e:Expr} {es:List Expr} {to:TE} {t:TA} {apos cpos:Pos} (hK:X.K=K) (pa:PlainAttrs T) (slot:Slot T name id) (hty:typeOf (.builtin id)=pure (.type "method_descriptor")) (hm:MtR X id r) (ho:PE X o to) (ha:PA X (e::es) t) (h1:attributeBase o name X.env (eval o X.env)=eval o X.env:=by rfl) (h2:((backTo cpos (starEach (e::es) X.env)).all (fun x=>!x.1)&&(backToKw cpos (keywordEach [] X.env)).all (fun x=>x.1.isSome)&&decide ((e::es).length+([]:List Keyword).length+(if ([]:List Keyword).isEmpty then 0 else 1)<30))=true:=by rfl) (h3:(apos.endLine==cpos.line)=true:=by rfl) (h4:starEach (e::es) X.env=(false,eval e X.env)::starEach es X.env:=by rfl) (h5:(backTo cpos (starEach es X.env)).any (·.1)=false:=by rfl):PE X (.Call (.Attribute o name apos) (e::es) [] cpos) (tBM K T r to t):=by
 subst hK
 exact qb8 pa slot hty hm ho ha h1 h2 h3 h4 h5
end
end L2
namespace L2
open PySem PySem.Spec PyProof.Rows
inductive DI:List Expr→TA→Prop
 | nil:DI [] qr1
 | c {v:Const} {j:Nat} {p:Pos} {es:List Expr} {te:TE} {t:TA} (h:∀X,PE X (.Constant v j p) te) (r:DI es t):DI (.Constant v j p::es) (qis te t)
 | t {xs:List Expr} {b p} {es:List Expr} {te:TE} {t:TA} (h:∀X,PE X (.Tuple xs b p) te) (r:DI es t):DI (.Tuple xs b p::es) (qis te t)
 | d {ks vs p} {es:List Expr} {te:TE} {t:TA} (h:∀X,PE X (.Dict ks vs p) te) (r:DI es t):DI (.Dict ks vs p::es) (qis te t)
 | l {xs:List Expr} {p} {es:List Expr} {te:TE} {t:TA} (h:∀X,PE X (.List xs p) te) (r:DI es t):DI (.List xs p::es) (qis te t)
end L2
namespace L2
open PySem PySem.Spec PyProof.Rows STb
section
variable {prog:Program} {w:World} {A:Around} {E:Value→Shared→Prop} {s:Shared}
end
section
variable {X:Cx}
end
end L2
namespace L2
open PySem PySem.Spec PyProof.Rows
section
variable {X:Cx} {K:PySem.W.Frag} {g:TG} {σ:St} {H:Hp} {a:Addr} {xs:List V} {nt:Nat} {caps:List Nat} {tt:TT} {te tl:TE} {Q:VK}
theorem qo5 (h:X.K=K):SlR X (qsO K):=h▸qrh
theorem qpc:qh1 nt caps (qsP K tl) g tt te σ H Q↔tl σ H fun x H1=>∃a,x = .ref a∧(∃xs,SqT K H1 a xs)∧qdL (Itt K a) nt caps g tt te σ H1 Q:=Iff.rfl
end
end L2
namespace L2
open PySem PySem.Spec PyProof.Rows
section
variable {X:Cx} {pins:List (Addr×Obj)} {σ:St} {H:Hp} {s:Shared} {h':Heap} {K:PySem.W.Frag}
theorem qoi {K:PySem.W.Frag}:qkW 2 (qsd K 2 (qnh (qhN 0) (qnh (qhN 1) qsn))):=by
 intro v cs H Q h
 obtain ⟨a,xs,e,hq,hl,v0,r0,e0,v1,r1,e1,e2,q⟩:=h
 refine ⟨a,xs,e,hq,hl,v0,r0,e0,v1,r1,e1,e2,fun j u z=>?_,q⟩
 match j with
 | 0=>simp at z
 | 1=>simp at z
 | j+2=>simpa using z
end
section
variable {K:PySem.W.Frag} {g:TG} {σ:St} {H:Hp} {a:Addr} {nt:Nat} {caps:List Nat} {tt:TT} {te:TE} {Q:VK} {ta:TA}
end
section
variable {g:TG} {tb:TS} {D:qf0} {σ:St} {H:Hp}
end
end L2
namespace Fam
section
variable {m:Nat} {o:List Nat} {f g:Nat→Bool}
end
end Fam
namespace L2
open PySem PySem.Spec PyProof.Rows
end L2
namespace L2
open PySem PySem.Spec PyProof.Rows
section
variable {m:Nat} {o cs cs':List Nat}
end
end L2
namespace Fam
end Fam
namespace Fam
end Fam
namespace L2
open PySem PySem.Spec PyProof.Rows
section
variable {X:Cx}
theorem qlh:qcC X (.builtin "len") (fun xs H Q=>∃p kvs,xs=[.ref p]∧H p=some (.dK kvs)∧Q (.int kvs.length) H):=by
 intro pins s σ H xs us Q I r h
 obtain ⟨p,kvs,rfl,hH,q⟩:=h
 obtain ⟨u,rfl,ru⟩:=qeC r
 cases ru
 obtain ⟨z,y,vs,kv,d⟩:=I.hok p _ hH
 have hl:kvs.length=vs.length:=Paired.length kv
 have zz:sizeLine<2^63:=by decide
 refine call_len_dict y d (by omega) ⟨.int _,H,I.tok _,⟨_,by rw [hl]⟩,q⟩
end
end L2
namespace L2
open PySem PySem.Spec PyProof.Rows
abbrev sV (ys:List Str):List V:=ys.map V.str
theorem qgt:∀{ys:List Str} {us:List Value},qbc (sV ys) us→StrsAre us ys
 | [],_,.nil => .nil
 | y::ys,_,.cons r t=>by
   obtain ⟨k,rfl⟩:=(show ∃k,_=Value.str y k from r)
   exact .cons y k (qgt t)
theorem qff:∀(l:List (Str×Tok)),qbc (sV (l.map (·.1))) (strValues l)
 | [] => .nil
 | (y,t)::l => .cons ⟨t,rfl⟩ (qff l)
section
variable {X:Cx}
def qsa (K:PySem.W.Frag):V→List V→Hp→VK→Prop:=fun x vs H Q=>∃(sep:Str) (l:Addr) (ys:List Str),x = .str sep∧vs=[.ref l]∧SqL K H l (sV ys)∧(ys.map (·.length)).sum+ys.length*sep.length≤16777216∧Q (.str (Txt.join sep ys)) H
theorem qce {K:PySem.W.Frag} (hK:X.K=K):MtM X "str.join" (qsa K):=by
 subst hK
 intro pins s σ H x vs v us Q I rx rv h
 obtain ⟨sep,l,ys,rfl,rfl,hq,hz,q⟩:=h
 obtain ⟨t,rfl⟩:=rx
 obtain ⟨u,rfl,ru⟩:=rv.one
 cases (show u=Value.ref l from ru)
 obtain ⟨its,r,p,_⟩:=I.list hq
 exact join_list p.isList (by simpa using qgt r) hz fun t' k=>⟨.str _,H,I.tok k,⟨_,rfl⟩,q⟩
def qqf:V→List V→Hp→VK→Prop:=fun x vs H Q=>∃(z y:Str),x = .str z∧vs=[.str y]∧(y.length==0)=false∧z.length≤100000∧∀l,H l=none→Q (.ref l) (upd H l (.lst (sV (Txt.split z y))))
theorem qdE:MtM X "str.split" qqf:=by
 intro pins s σ H x vs v us Q I rx rv h
 obtain ⟨z,y,rfl,rfl,hy,hz,q⟩:=h
 obtain ⟨t,rfl⟩:=rx
 obtain ⟨u,rfl,ru⟩:=rv.one
 obtain ⟨t2,rfl⟩:=ru
 have hl:=split_le z y
 have e24:sizeLine=16777216:=sizeLine_eq
 have fin:∀(l:List (Str×Tok)) (k:Nat),l.map (·.1)=Txt.split z y→EP X pins σ Q (.ref s.heap.objs.size) { s with heap:=s.heap.push { cls := .type "list",data := .seq (strValues l).toArray },toks:=k }:=fun l k e =>
   ⟨.ref s.heap.objs.size,_,I.lnew (ys:=sV (Txt.split z y)) (t':=k) (by rw [←e];exact qff l) (by rw [List.length_map];omega),rfl,q _ I.fresh⟩
 cases h1:(decide (z.length<y.length)||decide (Builtin.Str.strKind z<Builtin.Str.strKind y)) with
 | true=>exact call_meets F.slot_str_split (typeIs_str _ _ _) F.entry_str_split (F.args_str_split_2 _ _) (meets_str_split_cannot_occur z y t t2 h1) (fin [(z,t)] s.toks (if_pos h1).symm)
 | false =>
   cases h2:(Builtin.Str.occurrences z y 0 z.length (z.length+1)).isEmpty with
   | true=>exact call_meets F.slot_str_split (typeIs_str _ _ _) F.entry_str_split (F.args_str_split_2 _ _) (meets_str_split_not_found z y t t2 h1 hy h2) (fin [(z,t)] s.toks ((if_neg (ne_true_of_eq_false h1)).trans (if_pos h2)).symm)
   | false =>
     have es:Txt.split z y=Builtin.Str.partsBetween z (Builtin.Str.occurrences z y 0 z.length (z.length+1)) y.length:=(if_neg (ne_true_of_eq_false h1)).trans (if_neg (ne_true_of_eq_false h2))
     refine call_meets F.slot_str_split (typeIs_str _ _ _) F.entry_str_split (F.args_str_split_2 _ _) (meets_str_split_sep z y t t2 h1 hy h2 (by omega) (by rw [←es];omega)) ?_
     rw [strsFrom_eq]
     exact fin (numbered s.toks _) _ ((numbered_texts _ _).trans es.symm)
def qs6:V→Option Int→Option Int→Hp→VK→Prop:=fun x lo hi H Q=>∃z:Str,x = .str z∧z.length≤100000∧Q (.str (Txt.slice z lo hi)) H
theorem qjL {v:Value} {o:Option Int} (h:IsPart v o):∃p:Option (Int×Tok),v=partValue p∧p.map (·.1)=o:=by
 cases h with
 | none=>exact ⟨none,rfl,rfl⟩
 | int=>exact ⟨some (_,_),rfl,rfl⟩
theorem qon:SlR X qs6:=by
 intro pins s σ H x v vl vu lo hi sl Q I rx hs pl pu h
 obtain ⟨z,rfl,hz,q⟩:=h
 obtain ⟨t,rfl⟩:=rx
 obtain ⟨a,rfl,rfl⟩:=qjL pl
 obtain ⟨b,rfl,rfl⟩:=qjL pu
 have e24:sizeLine=16777216:=sizeLine_eq
 refine ⟨"str",_,F.slot_str_getitem.lookup,typeIs_str _ _ _,wpAny_getItem_str_slice (l:=a) (u:=b) (st:=none) hs rfl (post_val_or_str ⟨Nat.le_trans (Txt.slice_le z _ _) (by omega),fun t' k=>?_⟩)⟩
 exact ⟨.str _,H,I.tok k,⟨_,rfl⟩,q⟩
theorem qh0:OpR X (compareOp .LtE) (fun x y H Q=>∃i j,x = .str i∧y = .str j∧Q (.bl (!decide (j.cps.toList<i.cps.toList))) H):=by
 intro pins s σ H x y v u Q I rx ry h
 obtain ⟨i,j,rfl,rfl,q⟩:=h
 obtain ⟨t,rfl⟩:=rx
 obtain ⟨t',rfl⟩:=ry
 exact P.le_str (qaP I q rfl)
def qoJ:V→List V→Hp→VK→Prop:=fun x vs H Q=>∃(l:Addr) (ys:List Str) (k:Str),x = .ref l∧vs=[.str k]∧H l=some (.lst (sV ys))∧k∈ys∧ys.length≤1000∧Q (.int (ys.idxOf k:Nat)) H
theorem qd8 (k:Str):∀{vs:List Value} {ys:List Str},StrsAre vs ys→∀(i:Nat) (h1:i<vs.length) (h2:i<ys.length),isStrOf k vs[i]=(ys[i]==k)
 | _,_,.nil,i,h1,_=>absurd h1 (Nat.not_lt_zero i)
 | _,_,.cons y t r,0,_,_=>rfl
 | _,_,.cons y t r,i+1,h1,h2=>qd8 k r i (Nat.lt_of_succ_lt_succ h1) (Nat.lt_of_succ_lt_succ h2)
theorem StrsAre.len:∀{vs:List Value} {ys:List Str},StrsAre vs ys→vs.length=ys.length
 | _,_,.nil=>rfl
 | _,_,.cons y t r=>congrArg (· + 1) (StrsAre.len r)
theorem qjK:∀{ys:List Str} {k:Str} {j:Nat},j<ys.idxOf k→∀h:j<ys.length,(ys[j]==k)=false
 | [],_,j,_,h=>absurd h (Nat.not_lt_zero j)
 | y::ys,k,j,w,h=>by
   rw [List.idxOf_cons] at w
   cases c:y==k with
   | true=>rw [c] at w;exact absurd w (by simp)
   | false =>
     rw [c] at w
     cases j with
     | zero=>exact c
     | succ j =>
       have w:j+1<ys.idxOf k+1:=w
       exact qjK (ys:=ys) (by omega) (Nat.lt_of_succ_lt_succ h)
theorem ql6:MtM X "list.index" qoJ:=by
 intro pins s σ H x vs v us Q I rx rv h
 obtain ⟨l,ys,k,rfl,rfl,hH,hk,hb,q⟩:=h
 cases rx
 obtain ⟨u,rfl,ru⟩:=rv.one
 obtain ⟨t,rfl⟩:=ru
 obtain ⟨z,its,n,r,hl,e⟩:=I.lstM hH
 have hi:=qgt r
 have hlen:=StrsAre.len hi
 have hj:ys.idxOf k<ys.length:=List.idxOf_lt_length_iff.mpr hk
 refine call_meets PySem.F.slot_list_index ⟨_,e,rfl⟩ PySem.F.entry_list_index (PySem.F.args_list_index_2 _ _) (SeqAt.list_indexAt l its.toArray n none #[] (.str k t) (isStrOf k) (ys.idxOf k) (by rw [List.size_toArray];omega) (by omega) ?_ fun j w1 w2=>?_) ⟨e,fun y hy=>(eq_isStrOf k t hi y (by simpa using hy)).at _ _,?_⟩
 · exact (qd8 k hi _ (by omega) hj).trans (by simp)
 · refine (qd8 k hi j (by simpa using w1) (by omega)).trans ?_
   exact qjK w2 _
 · exact ⟨.int _,H,I.tok _,⟨_,rfl⟩,q⟩
end
end L2
namespace L2
open PySem PySem.Spec PyProof.Rows
def Its (z:Str):It:=⟨fun i _=>i<z.length,fun i H x H'=>H'=H∧∃c,z.cps[i]?=some c∧x = .str ⟨#[c]⟩,fun i _=>z.length≤i⟩
theorem qnG {P:Program} {w:World} {K:PySem.W.Frag} {tg:Expr} (z:Str) (t:Tok) (it:Addr):qpu P w K tg (Its z) [it] it (fun i h=>h.IsStrIter it "str_ascii_iterator" z t i) where
 mem:=by simp
 obj:=fun i h J b hb=>by
   obtain rfl:b=it:=by simpa using hb
   obtain ⟨oi,e1,_,e3⟩:=J
   exact ⟨oi,e1,fun v z=>by rw [e3] at z;cases z⟩
 keep:=fun i h h' J k=>by
   obtain ⟨oi,e1,r⟩:=J
   exact ⟨oi,k it (by simp) oi e1,r⟩
 item:=by
   intro X hP hw hK hc i pins s σ H E I hf J hg
   subst hP hw hK
   have hi:i<z.cps.size:=hg
   have hx:z.cps[i]?=some z.cps[i]:=Array.getElem?_eq_getElem hi
   obtain ⟨f0,f1,f2,f3,f4,f5⟩:=hf it (by simp)
   refine wpAny_pyNext_ascii_item J hx fun h' J' sb=>?_
   have I1:Inv X pins σ H { s with heap:=h',toks:=s.toks+1 }:=I.turned (fun b o hb e=>(sb.2 b hb).trans e) f0 f1 f3 f4 f5
   obtain ⟨oj,e1,e2,e3⟩:=id J'
   exact ⟨_,rfl,qnL (s:={ s with heap:=h',toks:=s.toks+1 }) e1 e2 e3 (by decide) ⟨.str ⟨#[z.cps[i]]⟩,H,I1,⟨_,rfl⟩,⟨rfl,_,hx,rfl⟩,J',fun b hb=>(hf b hb).1⟩⟩
 done:=by
   intro X hP hw hK hc i pins s σ H E I hf J hg
   subst hP hw hK
   obtain ⟨f0,f1,f2,f3,f4,f5⟩:=hf it (by simp)
   exact wpAny_pyNext_ascii_end (I.ok.hd hc) J (Array.getElem?_eq_none hg) fun h' eb=>⟨rfl,I.turned (t':=s.toks) (fun b o hb e=>eb b o hb e) f0 f1 f3 f4 f5⟩
 self:=fun _ _ _ _ _ J q=>wpAny_pyIter_striter_ascii J q
def qr5 (tl:TE):TI:=fun σ H R=>tl σ H fun x H1=>∃z:Str,x = .str z∧z.cps.all (· < 128)=true∧R (Its z) H1
section
variable {X:Cx} {tg:Expr}
theorem qqq {l:Expr} {tl:TE} (hl:PE X l tl):PI X tg l (qr5 tl):=by
 intro pins s σ H R I h
 refine thn (hl pins s σ H _ I h) fun v s1 ⟨x,H1,I1,r1,z,ex,ha,q⟩=>?_
 subst ex
 obtain ⟨t,rfl⟩:=r1
 refine wpAny_pyIter_ascii ha ⟨s1.heap.objs.size,[s1.heap.objs.size],_,_,H1,rfl,I1.kept (t':=s1.toks) fun b o e=>Heap.get?_push_of_some _ e,qnG z t _,⟨_,Heap.get?_push_size _ rfl,rfl,rfl⟩,fun b hb=>?_,q⟩
 obtain rfl:b=s1.heap.objs.size:=by simpa using hb
 exact I1.fpOk (Nat.le_refl _) (I1.hok.fresh (Nat.le_refl _))
end
section
variable {g:TG} {tb:TS} {D:qf0} {σ:St} {H:Hp} {z:Str} {nt:Nat} {caps:List Nat} {tt:TT} {te tl:TE} {Q:VK}
theorem qqg:qoc (qr5 tl) g tb D σ H↔tl σ H fun x H1=>∃z:Str,x = .str z∧z.cps.all (· < 128)=true∧qfW (Its z) g tb D σ H1:=Iff.rfl
theorem qoE:qh1 nt caps (qr5 tl) g tt te σ H Q↔tl σ H fun x H1=>∃z:Str,x = .str z∧z.cps.all (· < 128)=true∧qdL (Its z) nt caps g tt te σ H1 Q:=Iff.rfl
def sgs (z:Str):List Nat:=z.cps.toList
theorem qow (z:Str):(sgs z).length=z.length:=by simp [sgs,Str.length]
theorem qrB {z:Str} {i:Nat}:(sgs z)[i]?=z.cps[i]?:=by simp [sgs]
theorem qd0 (c:Nat→Bool) (fs:List Nat) (i x:Nat) (hx:fs[i]?=some x):(fs.take (i+1)).filter c=(fs.take i).filter c++if c x=true then [x] else []:=by
 rw [List.take_add_one,hx,List.filter_append]
 cases h:c x<;>simp [h]
theorem qqZ (c:Nat→Bool) (f:Nat→V) (hz:z.length≤100000)
   (hs:∀x∈sgs z,∀H1,Same H H1→∀(R:VK) (R':Hp→Prop),(c x=true→∀H2,Same H1 H2→R (f x) H2)→(c x=false→∀H2,Same H1 H2→R' H2) →
     g (.str ⟨#[x]⟩) (qcf nt caps σ) H1 fun σ4 H4=>tt σ4 H4 fun b H5=>if b=true then te σ4 H5 R else R' H5)
   (hd:∀H1 p,Same H H1→H1 p=none→Q (.ref p) (upd H1 p (.lst (((sgs z).filter c).map f)))):qdL (Its z) nt caps g tt te σ H Q:=by
 have e24:sizeLine=16777216:=sizeLine_eq
 refine ⟨fun i m ys H1=>m=z.length-i∧i≤z.length∧Same H H1∧ys=(((sgs z).take i).filter c).map f,⟨_,rfl,Nat.zero_le _,Same.refl _,rfl⟩,?_⟩
 rintro i m ys H2 ⟨rfl,hi,sm,rfl⟩
 have ln:((((sgs z).take i).filter c).map f).length≤i:=by
   rw [List.length_map]
   exact Nat.le_trans (List.length_filter_le _ _) (by rw [List.length_take];omega)
 rcases Nat.lt_or_ge i z.length with k | k
 · refine .inr ⟨k,by omega,fun x H3 y=>?_⟩
   obtain ⟨rfl,cc,k1,rfl⟩:=y
   have k2:(sgs z)[i]?=some cc:=qrB.trans k1
   have ex:=qd0 c (sgs z) i cc k2
   refine hs cc (List.mem_of_getElem? k2) _ sm _ _ (fun hc H4 s4=>⟨z.length-(i+1),by omega,rfl,k,sm.trans s4,?_⟩) fun hc H4 s4=>⟨z.length-(i+1),by omega,rfl,k,sm.trans s4,?_⟩
   · rw [ex,hc,if_pos rfl,List.map_append]
     rfl
   · rw [ex,hc,if_neg Bool.false_ne_true,List.append_nil]
 · obtain rfl:i=z.length:=by omega
   refine .inl ⟨Nat.le_refl _,by omega,fun p hp=>?_⟩
   rw [show (sgs z).take z.length=sgs z from by rw [←qow];exact List.take_length]
   exact hd H2 p sm hp
end
section
variable {X:Cx} {K:PySem.W.Frag}
def qs4 (K:PySem.W.Frag):List V→Hp→VK→Prop:=fun xs H Q=>∃(l:Addr) (bs:List Bool),xs=[.ref l]∧SqL K H l (bs.map V.bl)∧Q (.bl (bs.all id)) H
theorem qnS (hc:X.calm=true) (hK:X.K=K):qcC X (.builtin "all") (qs4 K):=by
 subst hK
 intro pins s σ H xs us Q I r h
 obtain ⟨l,bs,rfl,hq,q⟩:=h
 obtain ⟨u,rfl,ru⟩:=qeC r
 cases (show u=Value.ref l from ru)
 obtain ⟨its,rv,p,hz⟩:=I.list hq
 have hl:=rv.length
 rw [List.length_map] at hl
 have hlt:l<s.heap.objs.size:=by
   obtain ⟨o,e,_⟩:=p.isList
   exact Heap.lt_size e
 refine call_all_walk (wpAny_pyIter_list p.isList ?_)
 refine ⟨s.heap.objs.size,_,_,_,_,_,fun i=>bs.getD i true,rfl,Walks.list (A:=X.A.in1) (I.ok.hd hc) _ l (Nat.ne_of_lt hlt) its.toArray,⟨⟨_,Heap.get?_push_size _ rfl,rfl,rfl⟩,?_⟩,fun i v s2 Q2 E2 hv hQ=>?_,fun h' tk hk=>?_⟩
 · obtain ⟨o,e,rr⟩:=p.isList
   exact ⟨o,Heap.get?_push_of_some _ e,rr⟩
 · have hv:its[i]?=some v:=by simpa using hv
   have hi:i<bs.length:=by
     have:=(List.getElem?_eq_some_iff.mp hv).1
     omega
   obtain ⟨u2,h2,r2⟩:=rv.get (i:=i) (x := .bl bs[i]) (by rw [List.getElem?_map,List.getElem?_eq_getElem hi];rfl)
   rw [hv] at h2
   cases h2
   cases (show v=Value.bool bs[i] from r2)
   have hQ:Q2 (bs.getD i true) s2:=hQ
   rw [List.getD_eq_getElem?_getD,List.getElem?_eq_getElem hi] at hQ
   exact wpAny_pure hQ
 · have e:(List.range its.toArray.size).all (fun i=>bs.getD i true)=bs.all id:=by
     rw [List.size_toArray,←hl,Bool.eq_iff_iff,List.all_eq_true,List.all_eq_true]
     constructor
     · intro z b hb
       obtain ⟨j,hj,rfl⟩:=List.mem_iff_getElem.mp hb
       have:=z j (List.mem_range.mpr hj)
       rw [List.getD_eq_getElem?_getD,List.getElem?_eq_getElem hj] at this
       exact this
     · intro z j hj
       have hj:=List.mem_range.mp hj
       rw [List.getD_eq_getElem?_getD,List.getElem?_eq_getElem hj]
       exact z _ (List.getElem_mem hj)
   rw [e]
   refine ⟨.bl _,H,I.kept fun b o z=>?_,rfl,q⟩
   refine hk b o (fun hm=>?_) (Heap.get?_push_of_some _ z)
   have l1:=Heap.lt_size z
   have e1:b=s.heap.objs.size:=by simpa using hm
   rw [e1] at l1
   exact absurd l1 (Nat.lt_irrefl _)
end
end L2
namespace L2
open PySem PySem.Spec PyProof.Rows
def qcx (v:Nat→Str):Nat→List Str
 | 0=>[]
 | i+1=>if (qcx v i).any (·==v i) then qcx v i else qcx v i++[v i]
theorem qmX (v:Nat→Str) (i:Nat) (k:Str):(qcx v (i+1)).any (·==k)=((qcx v i).any (·==k)||decide (k=v i)):=by
 show (if (qcx v i).any (·==v i) then qcx v i else qcx v i++[v i]).any (·==k)=_
 by_cases c:(qcx v i).any (·==v i)=true
 · rw [if_pos c]
   by_cases e:k=v i
   · rw [e,c];rfl
   · rw [decide_eq_false e,Bool.or_false]
 · rw [if_neg c,List.any_append]
   congr 1
   simp only [List.any_cons,List.any_nil,Bool.or_false]
   rw [Bool.eq_iff_iff,beq_iff_eq,decide_eq_true_eq]
   exact eq_comm
theorem qgB (v:Nat→Str) (i:Nat):(qcx v (i+1)).length=if (qcx v i).any (·==v i) then (qcx v i).length else (qcx v i).length+1:=by
 show (if (qcx v i).any (·==v i) then qcx v i else qcx v i++[v i]).length=_
 split
 · rfl
 · simp
theorem qla (v:Nat→Str):∀i,(qcx v i).length≤i
 | 0=>Nat.le_refl _
 | i+1=>by
   rw [qgB]
   have:=qla v i
   split<;>omega
section
variable {prog:Program} {w:World} {A:Around} {R:Result→Shared→Prop} {I:Addr} {fp wr:List Addr} {G:Array GenState→Array GenState→Prop} {n:Nat} {P:Nat→Value→Prop} {St:Nat→Shared→Prop}
theorem qm3 (W:WalksS prog w A.in1 I fp wr G n P St) (a:Addr) (na:a∉fp) (val:Nat→Str) (hv:∀i v,P i v→∃t,v = .str (val i) t) (few:n+1<scanBound) :
   ∀(k i:Nat) (s:Shared),n-i=k→i≤n→St i s→s.heap.SetOf (PySem.strKind prog w) a (fun x=>(qcx val i).any (·==x)) (qcx val i).length →
     (∀s',Moved (a::wr) G s s'→s'.heap.SetOf (PySem.strKind prog w) a (fun x=>(qcx val n).any (·==x)) (qcx val n).length→R (.ok (.ret .none)) s') →
     codeAny (model prog w) A (.builtin "set.update.loop" ⟨[.ref a,.ref I],[]⟩) R s:=by
 have nw:a∉wr:=fun z=>na (W.sub _ z)
 have qmx:∀b∈wr,b∈a::wr:=fun b z=>List.mem_cons_of_mem _ z
 have keepS:∀{j:Nat} {s s':Shared},Moved wr G s s'→s.heap.SetOf (PySem.strKind prog w) a (fun x=>(qcx val j).any (·==x)) (qcx val j).length→s'.heap.SetOf (PySem.strKind prog w) a (fun x=>(qcx val j).any (·==x)) (qcx val j).length:=fun {j s s'} mv z=>by
   obtain ⟨o,es,ep,t,ho,rr⟩:=z
   exact ⟨o,es,ep,t,mv.heap a _ nw ho,rr⟩
 intro k
 induction k with
 | zero =>
   intro i s hk hi hst hS hR
   obtain rfl:i=n:=by omega
   refine codeAny_builtin F.entry_set_update_loop ?_
   rw [Around.under_plainId F.plain_set_update_loop _]
   refine (wpAny_bind (m:=pyNext (.ref I)) (W.done s _ _ hst fun s' mv=>?_))
   exact wpAny_pure (hR s' (mv.mono qmx) (keepS mv hS))
 | succ k ih =>
   intro i s hk hi hst hS hR
   have lt:i<n:=by omega
   refine codeAny_builtin F.entry_set_update_loop ?_
   rw [Around.under_plainId F.plain_set_update_loop _]
   refine (wpAny_bind (m:=pyNext (.ref I)) (W.item i s _ _ lt hst fun v s' pv st' mv=>?_))
   obtain ⟨t,rfl⟩:=hv i v pv
   have hS1:=keepS mv hS
   refine wpAny_bind (m:=holding [Value.str (val i) t] (setAdd a (.str (val i) t))) (wpAny_holding ?_)
   unfold setAdd
   refine (wpAny_holding ?_)
   have isv:(PySem.strKind prog w).is (val i) (.str (val i) t)=true:=strKind_is _ _ _ _
   refine wpAny_bind ((PySem.strKind prog w).pyHash (k:=val i) isv ?_)
   refine wpAny_setAddHashed_of (knd:=PySem.strKind prog w) (s:={ s' with toks:=s'.toks+1 }) isv rfl hS1 (by have:=qla val i;omega) fun h' sb hS2=>?_
   have hS3:h'.SetOf (PySem.strKind prog w) a (fun x=>(qcx val (i+1)).any (·==x)) (qcx val (i+1)).length:=SetOf_congr hS2 (fun x=>(qmX val i x).symm) (qgB val i).symm
   refine wpAny_pure ⟨plainId_quiet F.plain_set_update_loop _,ih (i+1) _ (by omega) lt (W.frame _ s' _ _ st' (Nat.le_succ _) fun b hb o e=>?_) hS3 fun s2 mv2 hS4=>?_⟩
   · exact (sb.2 b (fun z:b=a=>na (z▸hb))).trans e
   · refine hR s2 (Moved.trans W.gtrans ((mv.mono qmx).then_heap (Nat.le_succ _) fun b o hb e=>?_) mv2) hS4
     exact (sb.2 b (fun z:b=a=>hb (by rw [z];exact List.mem_cons_self))).trans e
end
theorem qkt:∀{vs:List Value} {ys:List Str},StrsAre vs ys→∀(i:Nat) (v:Value),vs[i]?=some v→∃t,v = .str (ys.getD i Str.empty) t
 | _,_,.nil,i,v,h=>by simp at h
 | _,_,.cons y t r,0,v,h=>by cases h;exact ⟨t,rfl⟩
 | _,_,.cons y t r,i+1,v,h=>qkt r i v (by simpa using h)
section
variable {prog:Program} {w:World} {A:Around} {E:Value→Shared→Prop} {s:Shared}
abbrev es0 (led:Bool):Obj:={ cls := .type "set",dict:=none,data := .set #[] 0 (.fresh 0 0 led) }
set_option maxHeartbeats 3200000 in
theorem qm7 {l:Addr} {items:Array Value} {ys:List Str} {Q:Value→Shared→Prop} (hh:A.handled=none) (hl:s.heap.IsList l items) (hi:StrsAre items.toList ys) (few:items.size+1<scanBound)
   (k:∀(h':Heap) (tk:Nat),h'.SetOf (PySem.strKind prog w) s.heap.objs.size (fun x=>(qcx (fun i=>ys.getD i Str.empty) items.size).any (·==x)) (qcx (fun i=>ys.getD i Str.empty) items.size).length →
     (∀b o,b<s.heap.objs.size→s.heap.get? b=some o→h'.get? b=some o)→Q (.ref s.heap.objs.size) { s with heap:=h',toks:=tk }) :
   wpAny (model prog w) A (call (.type "set") [.ref l]) Q E s:=by
 obtain ⟨c,tl,hmro⟩:=(F.called_set.mro)
 have k1:=F.called_set.made
 have k2:=F.called_set.sub
 refine (wpAny_call (codeAny_of_tree ?_))
 show wpAny _ _ (callAny (.type "set") _) _ _ s
 refine (wpAny_pure ⟨Code.quiet_builtin _ (by decide +kernel),codeAny_builtin F.entry_type_call ?_⟩)
 rw [Around.under_plain (weight_type_call_type "set" [.ref l] []) rfl]
 have k3:=F.called_set.notType
 have k4:=F.called_set.canCreate
 have k5:=F.typeCall_set_1 (.ref l)
 repeat (any_goals (first | assumption | wp_step))
 refine codeAny_mono (code_set_new_1 (.ref l) (E:=E) (Q₁:=fun ob s1=>∃led:Bool,ob = .ref s.heap.objs.size∧s1={ s with heap:=s.heap.push (es0 led) }) fun led=>⟨led,rfl,rfl⟩) fun r s1 hr=>?_
 cases r with
 | error e=>exact hr
 | ok fl =>
   cases fl with
   | ret ob =>
     obtain ⟨led,rfl,rfl⟩:=hr
     have at0:(s.heap.push (es0 led)).get? s.heap.objs.size=some (es0 led):=Heap.get?_push_size _ rfl
     have ty0:Shared.TypeIs { s with heap:=s.heap.push (es0 led) } (.ref s.heap.objs.size) "set" := ⟨_,at0,rfl⟩
     have k6:=F.called_set.init.lookup
     have k7:=F.called_set.init.bind (.ref s.heap.objs.size)
     repeat (any_goals (first | assumption | wp_step))
     refine codeAny_mono (codeAny_call_builtin (R:=wants (fun r s2=>r = .none∧∃h' tk,s2={ s with heap:=h',toks:=tk } ∧
         h'.SetOf (PySem.strKind prog w) s.heap.objs.size (fun x=>(qcx (fun i=>ys.getD i Str.empty) items.size).any (·==x)) (qcx (fun i=>ys.getD i Str.empty) items.size).length ∧
         (∀b o,b<s.heap.objs.size→s.heap.get? b=some o→h'.get? b=some o)) E) F.called_set.init.plain F.entry_set_init (check_set_init_1 ty0 ?_)) fun r2 s2 hr2=>?_
     · obtain ⟨ol,at1,c1,nl,d1⟩:=hl
       obtain ⟨o1,o2,o3,o4⟩:=ol
       simp only at c1 d1
       subst c1
       subst d1
       have at2:(s.heap.push (es0 led)).get? l=some { cls := .type "list",dict:=o2,data := .seq items nl,slots:=o4 }:=Heap.get?_push_of_some _ at1
       have k8:=F.sub_list_set
       have k9:=F.sub_list_frozenset
       have k10:(Value.type "list" == Value.type "dict")=false:=by decide
       have il:(s.heap.push (es0 led)).IsList l items:=⟨_,at2,rfl,nl,rfl⟩
       unfold Builtin.«set.__init__» noKeywords Builtin.Frozenset.updateFrom
       generalize gPI:pyIter=PI
       wp_walk
       subst gPI
       refine (wpAny_pyIter_list il ?_)
       refine (wpAny_bind (wpAny_runValue ?_))
       have l0:l<s.heap.objs.size:=Heap.lt_size at1
       have h3:A.in1.in1.in1.handled=none:=by simp [hh]
       have n1:l≠(s.heap.push (es0 led)).objs.size:=by
         rw [Heap.size_push]
         exact Nat.ne_of_lt (Nat.lt_succ_of_lt l0)
       have n2:s.heap.objs.size∉[(s.heap.push (es0 led)).objs.size,l]:=by
         rw [Heap.size_push]
         simp only [List.mem_cons,List.mem_singleton,List.not_mem_nil,or_false,not_or]
         exact ⟨Nat.ne_of_lt (Nat.lt_succ_self _),Nat.ne_of_gt l0⟩
       refine qm3 ((Walks.list h3 _ l n1 items).toS) s.heap.objs.size n2 (fun i=>ys.getD i Str.empty) (fun i v hv=>qkt hi i v (by rw [Array.getElem?_toList];exact hv)) few (items.size-0) 0 _ (by omega) (Nat.zero_le _)
         ⟨⟨_,Heap.get?_push_size _ rfl,rfl,rfl⟩,(il.push _)⟩ ?h0 ?hR
       case h0=>exact SetOf_congr ((setObjOf_fresh (knd:=PySem.strKind prog w) led).setOf (Heap.get?_push_of_some _ at0) (by unfold scanBound;omega)) (fun _=>rfl) rfl
       case hR =>
         intro s' mv hS'
         obtain ⟨h',g',d',tk',os'⟩:=s'
         cases (show g'=s.gens from mv.gens)
         cases (show d'=s.drawn from mv.drawn)
         cases (show os'=s.os from mv.os)
         refine (wpAny_pure ?_)
         show wpAny _ _ (ret Value.none) _ _ _
         refine wpAny_pure ⟨rfl,h',tk',rfl,hS',fun b o hb e=>mv.heap b o ?_ (Heap.get?_push_of_some _ (Heap.get?_push_of_some _ e))⟩
         simp only [List.mem_cons,List.mem_singleton,List.not_mem_nil,or_false,not_or]
         exact ⟨Nat.ne_of_lt hb,by rw [Heap.size_push];exact Nat.ne_of_lt (Nat.lt_succ_of_lt hb)⟩
     · cases r2 with
       | error e=>exact hr2
       | ok fl2 =>
         cases fl2 with
         | ret r =>
           obtain ⟨rfl,h',tk,rfl,z1,z2⟩:=hr2
           repeat (any_goals (first | assumption | wp_step))
           exact k _ _ z1 z2
         | _=>exact hr2.elim
   | _=>exact hr.elim
end
def cnt (ys:List Str):Nat:=(qcx (fun i=>ys.getD i Str.empty) ys.length).length
abbrev SsO (P:Program) (w:World) (a:Addr) (n:Nat):HO := .ext fun h=>∃S:Str→Bool,h.SetOf (PySem.strKind P w) a S n
section
variable {X:Cx} {P:Program} {w:World} {K:PySem.W.Frag}
def qr7 (P:Program) (w:World) (K:PySem.W.Frag):List V→Hp→VK→Prop:=fun xs H Q=>∃(l:Addr) (ys:List Str),xs=[.ref l]∧SqL K H l (sV ys)∧ys.length≤1000∧∀p,H p=none→Q (.ref p) (upd H p (SsO P w p (cnt ys)))
theorem qmb (hP:X.prog=P) (hw:X.w=w) (hK:X.K=K) (hc:X.calm=true):qcC X (.type "set") (qr7 P w K):=by
 subst hP hw hK
 intro pins s σ H xs us Q I r h
 obtain ⟨l,ys,rfl,hq,hn,q⟩:=h
 obtain ⟨u,rfl,ru⟩:=qeC r
 cases (show u=Value.ref l from ru)
 obtain ⟨its,rv,p,hz⟩:=I.list hq
 have hi:=qgt rv
 have hl:=StrsAre.len hi
 refine qm7 (I.ok.hd hc) p.isList (ys:=ys) (by simpa using hi) (by rw [List.size_toArray,hl];unfold scanBound;omega) fun h' tk hS kp=>?_
 have hS2:h'.SetOf (PySem.strKind X.prog X.w) s.heap.objs.size (fun x=>(qcx (fun i=>ys.getD i Str.empty) ys.length).any (·==x)) (cnt ys):=by
   have hsz:its.toArray.size=ys.length:=by rw [List.size_toArray,hl]
   rw [hsz] at hS
   exact hS
 refine ⟨.ref s.heap.objs.size,_,I.laid (o:=SsO X.prog X.w s.heap.objs.size (cnt ys)) (fun b o e=>kp b o (Heap.lt_size e) e) (Nat.le_refl _) ⟨⟨_,hS2⟩,?_,fun h1 h2 ⟨S,z⟩ kk=>?_⟩,rfl,q _ I.fresh⟩
 · obtain ⟨o,_,_,_,e,_⟩:=hS2
   exact ⟨o,e⟩
 · obtain ⟨o,es,ep,t,e,rr⟩:=z
   exact ⟨S,o,es,ep,t,kk o e,rr⟩
def qsh (P:Program) (w:World):List V→Hp→VK→Prop:=fun xs H Q=>∃(p:Addr) (n:Nat),xs=[.ref p]∧H p=some (SsO P w p n)∧n≤1000∧Q (.int (n:Nat)) H
theorem qlI (hP:X.prog=P) (hw:X.w=w):qcC X (.builtin "len") (qsh P w):=by
 subst hP hw
 intro pins s σ H xs us Q I r h
 obtain ⟨p,n,rfl,e,hn,q⟩:=h
 obtain ⟨u,rfl,ru⟩:=qeC r
 cases (show u=Value.ref p from ru)
 obtain ⟨S,o,es,ep,t,e1,e2,e3,e4,e5,e6,e7,e8⟩:=(show qbN X.prog X.w H s.heap p (SsO X.prog X.w p n) from I.hok p _ e).1
 have hs:es.size=n:=e8
 exact call_len_set e1 e2 e3 e7 (by omega) ⟨.int (n:Nat),H,I.tok _,⟨_,by rw [hs]⟩,q⟩
end
theorem qcQ {X:Cx} {x z:Str} {p:Pos} (h:∃t,X.mg x=some (.str z t)) (hg:Gl X x) (hd:(x==("__debug__" : Str))=false:=by decide):PE X (.Name x p) (tC (.str z)):=by
 obtain ⟨t,h⟩:=h
 exact qea hg h ⟨t,rfl⟩ hd
theorem qnN {D:qf0} {σ:St} {H:Hp} {c:TT} {u:TS}:ql2 (qrr c qn5 qky) u D σ H↔c σ H fun b H1=>if b=true then False else u D σ H1:=Iff.rfl
end L2
namespace Tx
open PySem
abbrev sg (z:Str):List Nat:=z.cps.toList
theorem ext {a b:Str} (h:sg a=sg b):a=b:=by
 obtain ⟨a⟩:=a
 obtain ⟨b⟩:=b
 have:a=b:=Array.toList_inj.mp h
 rw [this]
theorem sg_app (a b:Str):sg (a++b)=sg a++sg b:=by
 show (a.cps++b.cps).toList=_
 simp
def jn (c:Nat):List (List Nat)→List Nat
 | []=>[]
 | [x]=>x
 | x::y::r=>x++c::jn c (y::r)
theorem sg_join (c:Nat):∀ys:List Str,sg (Str.join ⟨#[c]⟩ ys)=jn c (ys.map sg)
 | []=>rfl
 | [x]=>rfl
 | x::y::r=>by
   show sg (x++⟨#[c]⟩++Str.join ⟨#[c]⟩ (y::r))=sg x++c::jn c ((y::r).map sg)
   rw [sg_app,sg_app,sg_join c (y::r),List.append_assoc]
   rfl
theorem jn_cons {c:Nat} {x:List Nat} {r:List (List Nat)} (h:r≠[]):jn c (x::r)=x++c::jn c r:=by
 cases r with
 | nil=>exact absurd rfl h
 | cons y r=>rfl
theorem qoe {c:Nat}:∀{x y a b:List Nat},c∉x→c∉y→x++c::a=y++c::b→x=y∧a=b
 | [],[],a,b,_,_,h=>⟨rfl,by simpa using h⟩
 | [],q::y,a,b,_,hy,h=>by
   have:=List.cons.inj h
   exact absurd (this.1▸List.mem_cons_self) hy
 | p::x,[],a,b,hx,_,h=>by
   have:=List.cons.inj h
   exact absurd (this.1▸List.mem_cons_self) hx
 | p::x,q::y,a,b,hx,hy,h=>by
   have h:=List.cons.inj h
   obtain ⟨e1,e2⟩:=qoe (fun z=>hx (List.mem_cons_of_mem _ z)) (fun z=>hy (List.mem_cons_of_mem _ z)) h.2
   exact ⟨by rw [h.1,e1],e2⟩
theorem qn7 {c:Nat}:∀{xs ys:List (List Nat)},xs≠[]→ys≠[]→(∀x∈xs,c∉x)→(∀y∈ys,c∉y)→jn c xs=jn c ys→xs=ys
 | [],_,h,_,_,_,_=>absurd rfl h
 | _,[],_,h,_,_,_=>absurd rfl h
 | [x],[y],_,_,_,_,h=>by rw [show x=y from h]
 | [x],y::q::r,_,_,hx,hy,h=>by
   have h:x=y++c::jn c (q::r):=h
   exact absurd (by rw [h];simp) (hx x List.mem_cons_self)
 | x::p::s,[y],_,_,hx,hy,h=>by
   have h:x++c::jn c (p::s)=y:=h
   exact absurd (by rw [←h];simp) (hy y List.mem_cons_self)
 | x::p::s,y::q::r,_,_,hx,hy,h=>by
   have h:x++c::jn c (p::s)=y++c::jn c (q::r):=h
   obtain ⟨e1,e2⟩:=qoe (hx x List.mem_cons_self) (hy y List.mem_cons_self) h
   rw [e1,qn7 (by simp) (by simp) (fun z hz=>hx z (List.mem_cons_of_mem _ hz)) (fun z hz=>hy z (List.mem_cons_of_mem _ hz)) e2]
theorem txt_join (c:Nat) (ys:List Str):sg (Txt.join ⟨#[c]⟩ ys)=jn c (ys.map sg):=by
 rw [show Txt.join ⟨#[c]⟩ ys=Str.join ⟨#[c]⟩ ys from StrLaws.glued_eq_join _ _,sg_join]
theorem qn2:∀{a b:List Str},a.map sg=b.map sg→a=b
 | [],[],_=>rfl
 | [],_::_,h=>by cases h
 | _::_,[],h=>by cases h
 | x::a,y::b,h=>by
   have h:=List.cons.inj h
   rw [ext h.1,qn2 h.2]
theorem split_join {c:Nat} {ws:List Str} (h0:ws≠[]) (h:∀w∈ws,c∉sg w):Txt.split (Txt.join ⟨#[c]⟩ ws) ⟨#[c]⟩=ws:=by
 have e1:=StrLaws.join_split (Txt.join ⟨#[c]⟩ ws) ⟨#[c]⟩
 have e2:=congrArg sg e1
 rw [sg_join,txt_join] at e2
 have fr:=StrLaws.split_free (Txt.join ⟨#[c]⟩ ws) c
 refine qn2 (qn7 (c:=c) (fun z=>?_) (fun z=>h0 (List.map_eq_nil_iff.mp z)) (fun x hx=>?_) (fun x hx=>?_) e2)
 · have:=PyProof.Rows.split_pos (Txt.join ⟨#[c]⟩ ws) ⟨#[c]⟩
   rw [List.map_eq_nil_iff.mp z] at this
   exact absurd this (by decide)
 · obtain ⟨p,hp,rfl⟩:=List.mem_map.mp hx
   exact fr p hp
 · obtain ⟨p,hp,rfl⟩:=List.mem_map.mp hx
   exact h p hp
theorem jn_mem {c d:Nat}:∀{xs:List (List Nat)},d∈jn c xs→d=c∨∃x∈xs,d∈x
 | [],h=>by cases h
 | [x],h => .inr ⟨x,List.mem_cons_self,h⟩
 | x::y::r,h=>by
   have h:d∈x++c::jn c (y::r):=h
   rcases List.mem_append.mp h with z | z
   · exact .inr ⟨x,List.mem_cons_self,z⟩
   · rcases List.mem_cons.mp z with z | z
     · exact .inl z
     · rcases jn_mem z with w | ⟨q,w1,w2⟩
       · exact .inl w
       · exact .inr ⟨q,List.mem_cons_of_mem _ w1,w2⟩
theorem jn_len {c M:Nat}:∀{xs:List (List Nat)},(∀x∈xs,x.length≤M)→(jn c xs).length≤xs.length*(M+1)
 | [],_=>Nat.zero_le _
 | [x],h=>by
   have:=h x List.mem_cons_self
   show x.length≤1*(M+1)
   omega
 | x::y::r,h=>by
   have h1:=h x List.mem_cons_self
   have h2:=jn_len (c:=c) (M:=M) (xs:=y::r) fun z hz=>h z (List.mem_cons_of_mem _ hz)
   show (x++c::jn c (y::r)).length≤_
   rw [List.length_append,List.length_cons]
   have e:(x::y::r).length*(M+1)=(y::r).length*(M+1)+(M+1):=by rw [List.length_cons (a:=x),Nat.add_mul,Nat.one_mul]
   rw [e]
   omega
def Wd (w:Str):Prop:=1≤w.length∧w.length≤8∧∀c∈sg w,97≤c∧c≤122
theorem Wd.free {w:Str} (h:Wd w) {c:Nat} (hc:c<97):c∉sg w:=fun z=>by
 have:=(h.2.2 c z).1
 omega
theorem len_sg (w:Str):(sg w).length=w.length:=by simp [sg,Str.length]
structure Wds (ws:List Str):Prop where
 few:ws.length≤8
 nd:ws.Nodup
 wd:∀w∈ws,Wd w
 no:("none" : Str)∉ws
theorem lit_plus:("+" : Str)=⟨#[43]⟩:=by decide +kernel
theorem lit_space:(" " : Str)=⟨#[32]⟩:=by decide +kernel
theorem lit_dash:("-" : Str)=⟨#[45]⟩:=by decide +kernel
theorem qeM:("none" : Str)=⟨#[110,111,110,101]⟩:=by decide +kernel
theorem lit_empty:("" : Str)=⟨#[]⟩:=by decide +kernel
def wds (ws:List Str) (a:Nat):List Str:=(Fam.nms 8 a).map fun k=>ws.getD k Str.empty
def sT (ws:List Str) (a:Nat):Str:=if a=0 then "-" else Txt.join "+" (wds ws a)
def fT (ws:List Str) (fs:List Nat):Str:=if fs=[] then "none" else Txt.join " " (fs.map (sT ws))
theorem qnH:∀a,a<256→Fam.nms 8 a=[]→a=0:=by decide +kernel
section
variable {ws:List Str} {a:Nat}
theorem nms_lt (ha:a<2^ws.length) {k:Nat} (hk:k∈Fam.nms 8 a):k<ws.length:=by
 have hb:=(Fam.mem_nms.mp hk).2
 rcases Nat.lt_or_ge k ws.length with c | c
 · exact c
 · rw [Nat.testBit_lt_two_pow (Nat.lt_of_lt_of_le ha (Nat.pow_le_pow_right (by decide) c))] at hb
   cases hb
theorem wds_mem (h:Wds ws) (ha:a<2^ws.length) {w:Str} (hw:w∈wds ws a):w∈ws:=by
 obtain ⟨k,hk,rfl⟩:=List.mem_map.mp hw
 have hl:=nms_lt ha hk
 rw [List.getD_eq_getElem?_getD,List.getElem?_eq_getElem hl]
 exact List.getElem_mem hl
theorem lt256 (h:Wds ws) (ha:a<2^ws.length):a<256:=Nat.lt_of_lt_of_le ha (Nat.pow_le_pow_right (n:=2) (by decide) h.few)
theorem wds_ne (h:Wds ws) (ha:a<2^ws.length) (h0:a≠0):wds ws a≠[]:=fun z=>h0 (qnH a (lt256 h ha) (List.map_eq_nil_iff.mp z))
theorem split_sT (h:Wds ws) (ha:a<2^ws.length):Txt.split (sT ws a) "+" = if a=0 then [("-" : Str)] else wds ws a:=by
 rw [lit_plus]
 unfold sT
 by_cases c:a=0
 · rw [if_pos c,if_pos c]
   have:Txt.split (Txt.join ⟨#[43]⟩ [("-" : Str)]) ⟨#[43]⟩=[("-" : Str)]:=split_join (by simp) fun w hw=>by
     rw [List.mem_singleton.mp hw,lit_dash]
     decide
   exact this
 · rw [if_neg c,if_neg c,lit_plus]
   exact split_join (wds_ne h ha c) fun w hw=>(h.wd w (wds_mem h ha hw)).free (by decide)
theorem sT_free (h:Wds ws) (ha:a<2^ws.length):32∉sg (sT ws a):=by
 unfold sT
 by_cases c:a=0
 · rw [if_pos c,lit_dash]
   decide
 · rw [if_neg c,lit_plus,txt_join]
   intro z
   rcases jn_mem z with e | ⟨x,hx,hz⟩
   · exact absurd e (by decide)
   · obtain ⟨w,hw,rfl⟩:=List.mem_map.mp hx
     exact (h.wd w (wds_mem h ha hw)).free (by decide) hz
theorem sT_len (h:Wds ws) (ha:a<2^ws.length):(sT ws a).length≤72:=by
 unfold sT
 by_cases c:a=0
 · rw [if_pos c,lit_dash]
   decide
 · rw [if_neg c,←len_sg,lit_plus,txt_join]
   have h1:=jn_len (c:=43) (M:=8) (xs:=(wds ws a).map sg) fun x hx=>by
     obtain ⟨w,hw,rfl⟩:=List.mem_map.mp hx
     rw [len_sg]
     exact (h.wd w (wds_mem h ha hw)).2.1
   have h2:((wds ws a).map sg).length≤8:=by
     rw [List.length_map]
     unfold wds Fam.nms
     rw [List.length_map]
     exact Nat.le_trans (List.length_filter_le _ _) (by simp)
   exact Nat.le_trans h1 (Nat.mul_le_mul h2 (Nat.le_refl 9))
theorem sT_none (h:Wds ws) (ha:a<2^ws.length):sT ws a ≠ "none" := by
 unfold sT
 by_cases c:a=0
 · rw [if_pos c]
   decide +kernel
 · rw [if_neg c]
   intro z
   have hm:=fun w hw=>wds_mem h ha (w:=w) hw
   have ne:=wds_ne h ha c
   have e:=congrArg sg z
   rw [lit_plus,txt_join,qeM] at e
   cases hw:wds ws a with
   | nil=>exact ne hw
   | cons x r =>
     cases r with
     | nil =>
       rw [hw] at e
       have ex:x = "none" := by
         rw [qeM]
         exact ext e
       exact h.no (ex▸hm x (by rw [hw];exact List.mem_cons_self))
     | cons y r =>
       rw [hw] at e
       have e:sg x++43::jn 43 ((y::r).map sg)=[110,111,110,101]:=e
       have:43∈[110,111,110,101]:=by
         rw [←e]
         simp
       exact absurd this (by decide)
theorem split_fT (h:Wds ws) {fs:List Nat} (hb:∀b∈fs,b<2^ws.length):Txt.split (fT ws fs) " " = if fs=[] then [("none" : Str)] else fs.map (sT ws):=by
 rw [lit_space]
 unfold fT
 by_cases c:fs=[]
 · rw [if_pos c,if_pos c]
   have:Txt.split (Txt.join ⟨#[32]⟩ [("none" : Str)]) ⟨#[32]⟩=[("none" : Str)]:=split_join (by simp) fun w hw=>by
     rw [List.mem_singleton.mp hw,qeM]
     decide
   exact this
 · rw [if_neg c,if_neg c,lit_space]
   refine split_join (fun z=>c (List.map_eq_nil_iff.mp z)) fun w hw=>?_
   obtain ⟨b,hb',rfl⟩:=List.mem_map.mp hw
   exact sT_free h (hb b hb')
theorem fT_len (h:Wds ws) {fs:List Nat} (hb:∀b∈fs,b<2^ws.length) (hn:fs.length≤100):(fT ws fs).length≤7300:=by
 unfold fT
 by_cases c:fs=[]
 · rw [if_pos c,qeM]
   decide
 · rw [if_neg c,←len_sg,lit_space,txt_join]
   have h1:=jn_len (c:=32) (M:=72) (xs:=(fs.map (sT ws)).map sg) fun x hx=>by
     obtain ⟨w,hw,rfl⟩:=List.mem_map.mp hx
     obtain ⟨b,hb',rfl⟩:=List.mem_map.mp hw
     rw [len_sg]
     exact sT_len h (hb b hb')
   rw [List.length_map,List.length_map] at h1
   exact Nat.le_trans h1 (Nat.mul_le_mul hn (Nat.le_refl 73))
theorem idx_wds (h:Wds ws) (ha:a<2^ws.length):(wds ws a).map (fun w=>ws.idxOf w)=Fam.nms 8 a:=by
 unfold wds
 rw [List.map_map]
 have:∀k∈Fam.nms 8 a,((fun w=>ws.idxOf w) ∘ fun k=>ws.getD k Str.empty) k=k:=fun k hk=>by
   have hl:=nms_lt ha hk
   show ws.idxOf (ws.getD k Str.empty)=k
   rw [List.getD_eq_getElem?_getD,List.getElem?_eq_getElem hl,Option.getD_some]
   exact h.nd.idxOf_getElem k hl
 rw [List.map_congr_left this,List.map_id']
end
end Tx
namespace L2
open PySem PySem.Spec PyProof.Rows
theorem qdc (ys:List Str):(sV ys).all qbU=true:=by
 rw [List.all_eq_true]
 intro x hx
 obtain ⟨z,_,rfl⟩:=List.mem_map.mp hx
 rfl
theorem qhU (a b:List Str):qgi (sV a) (sV b)=decide (a=b):=by
 unfold qgi
 rw [List.length_map,List.length_map]
 by_cases hl:a.length=b.length
 · rw [show (a.length==b.length)=true by simpa using hl,Bool.true_and]
   rw [Bool.eq_iff_iff,List.all_eq_true,decide_eq_true_eq]
   constructor
   · intro h
     refine List.ext_getElem hl fun i h1 h2=>?_
     have q:=h i (List.mem_range.mpr h1)
     simpa [List.getD,h1,h2,eqV] using q
   · rintro rfl j hj
     have hj':=List.mem_range.mp hj
     simp [List.getD,hj',eqV]
 · rw [show (a.length==b.length)=false by simpa using hl,Bool.false_and]
   exact (decide_eq_false fun e=>hl (by rw [e])).symm
theorem qsB (w:Str) (ys:List Str):inV (.str w) (sV ys)=decide (w∈ys):=by
 unfold inV
 rw [Bool.eq_iff_iff,List.any_eq_true,decide_eq_true_eq]
 constructor
 · rintro ⟨x,hx,e⟩
   obtain ⟨z,hz,rfl⟩:=List.mem_map.mp hx
   have:z=w:=by simpa [eqV] using e
   exact this▸hz
 · intro h
   exact ⟨.str w,List.mem_map.mpr ⟨w,h,rfl⟩,by simp [eqV]⟩
theorem qbo (ys:List Str):(sV ys).length=ys.length:=List.length_map _
theorem qhG {ys:List Str} {i:Nat} {w:Str} (h:ys[i]?=some w):atI (sV ys) (i:Int)=some (.str w):=qdg (by rw [List.getElem?_map,h];rfl)
theorem qlV {M:Nat}:∀{ys:List Str},(∀y∈ys,y.length≤M)→(ys.map (·.length)).sum≤ys.length*M
 | [],_=>Nat.zero_le _
 | y::ys,h=>by
   rw [List.map_cons,List.sum_cons,List.length_cons,Nat.add_mul,Nat.one_mul]
   have h1:=h y List.mem_cons_self
   have h2:=qlV (M:=M) (ys:=ys) fun z hz=>h z (List.mem_cons_of_mem _ hz)
   omega
theorem qbn {M N:Nat} {ys:List Str} {sep:Str} (h:∀y∈ys,y.length≤M) (hn:ys.length≤N) (hs:sep.length≤1) (hM:N*(M+1)≤16777216):(ys.map (·.length)).sum+ys.length*sep.length≤16777216:=by
 have h1:=qlV h
 have h2:ys.length*sep.length≤ys.length*1:=Nat.mul_le_mul_left _ hs
 have h3:ys.length*(M+1)≤N*(M+1):=Nat.mul_le_mul_right _ hn
 rw [Nat.mul_add] at h3
 omega
theorem qgL (v:Nat→Str):∀i (w:Str),w∈qcx v i→∃j,j<i∧w=v j
 | 0,w,h=>by cases h
 | i+1,w,h=>by
   have h:w∈if (qcx v i).any (·==v i) then qcx v i else qcx v i++[v i]:=h
   split at h
   · obtain ⟨j,h1,h2⟩:=qgL v i w h
     exact ⟨j,by omega,h2⟩
   · rcases List.mem_append.mp h with z | z
     · obtain ⟨j,h1,h2⟩:=qgL v i w z
       exact ⟨j,by omega,h2⟩
     · exact ⟨i,by omega,List.mem_singleton.mp z⟩
theorem qqE {ys:List Str} (h:ys.Nodup):cnt ys=ys.length:=by
 have all:∀i,i≤ys.length→(qcx (fun i=>ys.getD i Str.empty) i).length=i:=by
   intro i
   induction i with
   | zero=>intro _;rfl
   | succ i ih =>
     intro hi
     rw [qgB,if_neg,ih (by omega)]
     intro z
     obtain ⟨w,hw,e⟩:=List.any_eq_true.mp z
     obtain ⟨j,hj,rfl⟩:=qgL _ i w hw
     have e:ys.getD j Str.empty=ys.getD i Str.empty:=by simpa using e
     rw [List.getD_eq_getElem?_getD,List.getD_eq_getElem?_getD,List.getElem?_eq_getElem (by omega),List.getElem?_eq_getElem (by omega)] at e
     have:=(List.getElem_inj h).mp (show ys[j]=ys[i] from e)
     omega
 exact all ys.length (Nat.le_refl _)
theorem qnD {z:Str} (h:Tx.Wd z):z.cps.all (· < 128)=true:=by
 rw [←Array.all_toList,List.all_eq_true]
 intro c hc
 have:=h.2.2 c hc
 exact decide_eq_true (by omega)
theorem qte {x:Nat} (h:97≤x):(!decide ((⟨#[x]⟩:Str).cps.toList<("a" : Str).cps.toList))=true:=by
 have e:("a" : Str).cps.toList=[97]:=by decide +kernel
 rw [e]
 show (!decide ([x] < [97]))=true
 rw [StrLaws.lt_cons_cons,StrLaws.lt_nil_nil,decide_eq_false (by omega)]
 simp
theorem qtc {x:Nat} (h:x≤122):(!decide (("z" : Str).cps.toList<(⟨#[x]⟩:Str).cps.toList))=true:=by
 have e:("z" : Str).cps.toList=[122]:=by decide +kernel
 rw [e]
 show (!decide ([122] < [x]))=true
 rw [StrLaws.lt_cons_cons,StrLaws.lt_nil_nil,decide_eq_false (by omega)]
 simp
def tx (c:Nat) (ys:List Str):Str:=⟨((ys.map fun y=>c::Tx.sg y).flatten).toArray⟩
theorem qq5 {m a:Nat} (hm:m≤8) (ha:a<2^m):Fam.nms m a=Fam.nms 8 a:=by
 obtain ⟨d,e⟩:∃d,8=m+d:=⟨8-m,by omega⟩
 rw [show Fam.nms 8 a=Fam.nms (m+d) a from by rw [←e]]
 unfold Fam.nms
 rw [List.range_add,List.filter_append]
 have:((List.range d).map (m + ·)).filter (fun k=>a.testBit k)=[]:=by
   rw [List.filter_eq_nil_iff]
   intro k hk
   obtain ⟨j,_,rfl⟩:=List.mem_map.mp hk
   rw [Nat.testBit_lt_two_pow (Nat.lt_of_lt_of_le ha (Nat.pow_le_pow_right (by decide) (Nat.le_add_right m j)))]
   simp
 rw [this,List.append_nil]
end L2
namespace L2
open PySem PySem.Spec PyProof.Rows
abbrev abc:Str := "abcdefghijklmnopqrstuvwxyz"
theorem qlK:∀i,i<26→abc.cps[i]?=some (97+i):=by decide +kernel
theorem qig:abc.length=26:=by decide +kernel
def Ls (z:Str):Prop:=∀c∈Tx.sg z,97≤c∧c≤122
theorem qel {α:Type} (L:List α) (g:α→Str):L.map (fun k=>V.str (g k))=sV (L.map g):=by
 show _=List.map V.str (List.map _ _)
 rw [List.map_map]
 rfl
theorem qjc:∀ys:List Str,Tx.sg (Str.join ⟨#[]⟩ ys)=(ys.map Tx.sg).flatten
 | []=>rfl
 | [x]=>by simp [Str.join]
 | x::y::r=>by
   show Tx.sg (x++⟨#[]⟩++Str.join ⟨#[]⟩ (y::r))=_
   rw [Tx.sg_app,Tx.sg_app,qjc (y::r),List.map_cons,List.flatten_cons]
   simp [Tx.sg]
theorem qdQ (ys:List Str):Tx.sg (Txt.join ("" : Str) ys)=(ys.map Tx.sg).flatten:=by
 rw [Tx.lit_empty,show Txt.join ⟨#[]⟩ ys=Str.join ⟨#[]⟩ ys from StrLaws.glued_eq_join _ _,qjc]
theorem qpZ {ys:List Str} (h:∀y∈ys,∃c,y=⟨#[c]⟩∧97≤c∧c≤122):(Txt.join ("" : Str) ys).length=ys.length∧Ls (Txt.join ("" : Str) ys):=by
 constructor
 · rw [←Tx.len_sg,qdQ]
   induction ys with
   | nil=>rfl
   | cons y ys ih =>
     obtain ⟨c,rfl,_⟩:=h y List.mem_cons_self
     rw [List.map_cons,List.flatten_cons,List.length_append,ih fun z hz=>h z (List.mem_cons_of_mem _ hz),List.length_cons]
     show 1+ys.length=ys.length+1
     omega
 · intro c hc
   rw [qdQ] at hc
   obtain ⟨l,hl,hc⟩:=List.mem_flatten.mp hc
   obtain ⟨y,hy,rfl⟩:=List.mem_map.mp hl
   obtain ⟨d,rfl,h1,h2⟩:=h y hy
   rw [show c=d from by simpa [Tx.sg] using hc]
   exact ⟨h1,h2⟩
theorem qe4 {z:Str} {lo hi:Option Int}:∀c∈Tx.sg (Txt.slice z lo hi),c∈Tx.sg z:=by
 intro c hc
 unfold Txt.slice at hc
 split at hc
 · exact hc
 · have hc:c∈(Builtin.Str.strSliceIndices lo hi 1 z.length).filterMap (z.cps[·]?):=by simpa [Tx.sg] using hc
   obtain ⟨i,_,e⟩:=List.mem_filterMap.mp hc
   have:(Tx.sg z)[i]?=some c:=by simpa [Tx.sg] using e
   exact List.mem_of_getElem? this
theorem qi7 {z:Str} (h:Ls z) {lo hi:Option Int}:Ls (Txt.slice z lo hi):=fun c hc=>h c (qe4 c hc)
theorem qrw {z:Str} {j:Nat} (h:j≤z.length):(Txt.slice z none (some (j:Int))).length=j:=by
 have:=beq_iff_eq.mp (slice_closes_to (x:=z) (j:=(j:Int)) ⟨by omega,by rw [show z.cps.toList.length=z.length from Tx.len_sg z];omega⟩)
 rw [this,←Tx.len_sg]
 show ((z.cps.toList.drop _).take _).length=j
 rw [List.length_take,List.length_drop,show z.cps.toList.length=z.length from Tx.len_sg z]
 simp<;>omega
theorem qmQ {z:Str} {i:Nat} (h:i≤z.length):(Txt.slice z (some (i:Int)) none).length=z.length-i:=by
 rw [slice_from_eq (b:=z.length) (by omega) (by omega) rfl,←Tx.len_sg]
 show ((z.cps.toList.drop _).take _).length=_
 rw [List.length_take,List.length_drop,show z.cps.toList.length=z.length from Tx.len_sg z]
 simp<;>omega
structure Gd (L:List Str):Prop where
 few:L.length≤8
 wd:∀w∈L,Tx.Wd w
 hd:∃w,L[0]?=some w∧w.length≠4
end L2
namespace Fly
open PySem
structure qtk (fs ch:List Addr) (h h':Heap):Prop where
 keep:∀b o,h.get? b=some o→b∉fs→b∉ch→h'.get? b=some o
 slot:∀b o,h.get? b=some o→b∈fs→b∉ch→∃sl,h'.get? b=some { o with slots:=sl }
def At (h:Heap) (e T:Addr) (cls fl:Value):Prop :=
 T≠e∧∃oe vs oT ts,h.get? e=some oe∧oe.cls=cls∧oe.data = .fields vs∧vs[1]?=some (.ref T)∧h.get? T=some oT∧oT.data = .fields ts∧ts[3]?=some fl
section
variable {M:Model} {A:Around} {E:Value→Shared→Prop} {s:Shared} {base:Heap} {env:Env} {outer:List Env} {L e:Addr}
end
end Fly
namespace Fly
open PySem
abbrev Lk {α:Type} (h:Heap) (t:Sem α) (r:α):Prop:=∀{M:Model} {A:Around} {E:Value→Shared→Prop} {g:Array GenState} {d:Drawn} {tk:Nat} {os:OsState} {Q:α→Shared→Prop},Q r ⟨h,g,d,tk,os⟩→wpAny M A t Q E ⟨h,g,d,tk,os⟩
structure Cl (h:Heap) (C:Addr):Prop where
 ga:Lk h (typeLookup (.ref C) "__getattribute__") (some (.builtin "BaseException.__getattribute__"))
 gt:Lk h (typeLookup (.ref C) "__getattr__") none
 cl:Lk h (typeLookup (.ref C) "__class__") (some (.builtin "object.__class__"))
 be:Lk h (isSubtype (.ref C) (.type "BaseException")) true
 ob:Lk h (isSubtype (.ref C) (.type "object")) true
section
variable {prog:Program} {w:World} {A:Around} {E:Value→Shared→Prop} {h:Heap} {g:Array GenState} {d:Drawn} {t:Nat} {os:OsState} {a C:Addr} {o:Obj}
end
end Fly
namespace L2
open PySem PySem.Spec PyProof.Rows
section
variable {P:Program} {w:World} {H H':Hp} {h h1 h2:Heap} {fs fs' ch:List Addr}
end
def CX1 (P:Program) (w:World):CXT:=fun outer H s E x s'=>∃(e T C:Addr) (H':Hp),x = .ref e∧s'.os=s.os∧AllBare s'.gens∧Un (frs outer) [] H H' s.heap s'.heap∧HOk P w H' s'.heap ∧
 s.heap.get? e=none∧s.heap.get? T=none∧H' e=none∧H' T=none∧Fly.At s'.heap e T (.ref C) .none∧E (.ref C) none H'
section
variable {P:Program} {w:World} {K:PySem.W.Frag} {mg:Str→Option Value} {base:Heap} {N:List Str} {qual:Str} {scope:Scope} {f:Addr} {cd:Value} {A:Around} {outer:List Env} {s0:Shared} {H0:Hp} {E:XK}
 {pins:List (Addr×Obj)} {σ:St} {H:Hp} {s:Shared}
end
section
variable {X:Cx}
variable {pins ps:List (Addr×Obj)} {σ:St} {H:Hp} {s:Shared} {e:Addr}
end
structure qtn (K:PySem.W.Frag) (C:Addr):Prop where
 cls:∃bmB newId,PySem.W.excIn K C bmB newId=true
 ga:PySem.W.findIn K (.ref C) "__getattribute__" = some (some (.builtin "BaseException.__getattribute__"))
 gt:PySem.W.findIn K (.ref C) "__getattr__" = some none
 cl:PySem.W.findIn K (.ref C) "__class__" = some (some (.builtin "object.__class__"))
 be:PySem.W.subIn K (.ref C) (.type "BaseException")=some true
 ob:PySem.W.subIn K (.ref C) (.type "object")=some true
structure qtm (P:Program) (w:World) (K:PySem.W.Frag) (mg:Str→Option Value) (base:Heap) (x:Str) (k:Nat) (ps:List Str) (sp:Sp) (f:Addr) (fd:FuncData):Prop where
 ok:qa1 P w K mg base (CX1 P w) k f fd ps sp
 mg:mg x=some (.ref f)
 kp:PySem.W.keepIn K (.ref f)=true
 bd:qdP K fd ps []
section
variable {K:PySem.W.Frag} {C D:Addr} {b:Bool} {T:String} {cd:ClassData}
end
section
variable {D:qf0} {σ:St} {H:Hp} {u:TS}
end
end L2
namespace Fly
open PySem
section
variable {M:Model} {A:Around} {E:Value→Shared→Prop} {s:Shared} {base:Heap} {env:Env} {outer:List Env} {L e:Addr}
end
end Fly
namespace L2
open PySem PySem.Spec PyProof.Rows
section
variable {X:Cx} {pins:List (Addr×Obj)} {σ:St} {H H':Hp} {s s':Shared}
structure Nw (X:Cx) (pins:List (Addr×Obj)) (H:Hp) (b:Addr):Prop where
 old:X.s₀.heap.get? b=none∨b∈X.ex
 loc:b≠X.env.locals
 cel:∀x c,X.env.cells.lookup x=some c→c≠b
 pin:∀p∈X.pn++pins,p.1≠b
 frm:b∉frs X.stack
 non:H b=none
end
section
variable {X:Cx}
end
end L2
namespace L2
open PySem PySem.Spec PyProof.Rows
section
variable {prog:Program} {w:World} {A:Around} {R:Result→Shared→Prop} {s:Shared}
end
section
variable {X:Cx} {tg iter elt:Expr} {ifs:List Expr} {scope:Scope} {pos:Pos} {N:List Str} {nt:Nat} {caps:List Nat} {wi:TI} {g:TG} {tt:TT} {te:TE} {cl:List (Str×Addr)}
end
end L2
namespace Tx
open PySem
section
variable {ws:List Str} {a b:Nat}
theorem qom {c:Nat}:∀{xs ys:List (List Nat)},xs≠[]→ys≠[]→jn c xs++c::jn c ys=jn c (xs++ys)
 | [],_,h,_=>absurd rfl h
 | [x],ys,_,h=>by
   show x++c::jn c ys=jn c (x::ys)
   rw [jn_cons h]
 | x::y::r,ys,_,h=>by
   show (x++c::jn c (y::r))++c::jn c ys=jn c (x::((y::r)++ys))
   rw [jn_cons (x:=x) (r:=y::r++ys) (by simp),List.append_assoc,List.cons_append,qom (xs:=y::r) (by simp) h]
theorem join_app {c:Nat} {xs ys:List Str} (h1:xs≠[]) (h2:ys≠[]):Txt.join ⟨#[c]⟩ xs++⟨#[c]⟩++Txt.join ⟨#[c]⟩ ys=Txt.join ⟨#[c]⟩ (xs++ys):=by
 refine ext ?_
 rw [sg_app,sg_app,txt_join,txt_join,txt_join,List.map_append,←qom (by simpa using h1) (by simpa using h2),List.append_assoc]
 rfl
theorem join_one {c:Nat} (w:Str):Txt.join ⟨#[c]⟩ [w]=w:=rfl
end
end Tx
namespace L2
open PySem PySem.Spec PyProof.Rows
section
variable {X:Cx} {K:PySem.W.Frag}
end
end L2
namespace L2
open PySem PySem.Spec PyProof.Rows
section
variable {X:Cx} {e a b o:Expr} {es:List Expr} {te ta tb to:TE} {t:TA} {pos apos cpos:Pos}
end
def As (z:Str):Prop:=∀c∈Tx.sg z,c<128
section
variable {X:Cx}
theorem qjl:∀(l:List (Array Nat)) (acc:Array Nat),(l.foldl (·++·) acc).toList=acc.toList++(l.map Array.toList).flatten
 | [],acc=>by simp
 | x::l,acc=>by
   rw [List.foldl_cons,qjl l]
   simp
def qqL:R2:=fun x y H Q=>∃(z:Str) (n:Nat),x = .str z∧y = .int (n:Nat)∧1≤n∧n≤100∧z.length≤100∧∀r:Str,(∀c∈Tx.sg r,c∈Tx.sg z)→r.length=n*z.length→Q (.str r) H
theorem qpR:OpR X (binaryOp .Mult) qqL:=by
 intro pins s σ H x y v u Q I rx ry h
 obtain ⟨z,n,rfl,rfl,h1,h2,hz,q⟩:=h
 obtain ⟨t,rfl⟩:=rx
 obtain ⟨t',rfl⟩:=ry
 have e24:sizeLine=16777216:=sizeLine_eq
 have hm:z.length*n≤100*100:=Nat.mul_le_mul hz h2
 refine P.mul_str (by rw [decide_eq_false (by omega),decide_eq_false (by omega)];rfl) (fun _ _=>?_) (fun _ _=>?_) ?_
 · have:((2:Int)^63-1)/100≤((2:Int)^63-1)/(n:Int):=by
     refine Int.le_ediv_of_mul_le (by omega) ?_
     have:((2:Int)^63-1)/100*(n:Int)≤((2:Int)^63-1)/100*100:=Int.mul_le_mul_of_nonneg_left (by omega) (by decide)
     omega
   omega
 · unfold Builtin.Str.tooLong
   rw [Int.toNat_natCast]
   exact decide_eq_false (by omega)
 · rw [if_neg (by omega)]
   by_cases c:(((n:Int)==1)||z.length==0)=true
   · rw [if_pos c]
     refine ⟨.str z,H,I.tok _,⟨_,rfl⟩,q z (fun _ hc=>hc) ?_⟩
     simp only [Bool.or_eq_true,beq_iff_eq] at c
     rcases c with c | c
     · rw [show n=1 by omega,Nat.one_mul]
     · rw [c,Nat.mul_zero]
   · rw [if_neg c]
     have el:Tx.sg (⟨(List.replicate (n:Int).toNat z.cps).foldl (·++·) #[]⟩:Str)=(List.replicate n (Tx.sg z)).flatten:=by
       show ((List.replicate (n:Int).toNat z.cps).foldl (·++·) #[]).toList=_
       rw [qjl,List.map_replicate,Int.toNat_natCast]
       rfl
     have ll:(⟨(List.replicate (n:Int).toNat z.cps).foldl (·++·) #[]⟩:Str).length=n*z.length:=by
       rw [←Tx.len_sg,el,List.length_flatten,List.map_replicate,List.sum_replicate_nat,Tx.len_sg]
     refine ⟨?_,.str _,H,I.tok _,⟨_,rfl⟩,q _ (fun d hd=>?_) ll⟩
     · rw [ll,Nat.mul_comm]
       omega
     · rw [el] at hd
       obtain ⟨l,hl,hd⟩:=List.mem_flatten.mp hd
       rw [(List.mem_replicate.mp hl).2] at hd
       exact hd
end
theorem qnX {c d:Nat}:∀{xs:List (List Nat)} {x:List Nat},x∈xs→d∈x→d∈Tx.jn c xs
 | [y],x,hx,hd=>by rw [List.mem_singleton.mp hx] at hd;exact hd
 | y::y'::r,x,hx,hd=>by
   show d∈y++c::Tx.jn c (y'::r)
   rcases List.mem_cons.mp hx with rfl | hx
   · exact List.mem_append_left _ hd
   · exact List.mem_append_right _ (List.mem_cons_of_mem _ (qnX hx hd))
theorem qoU {z:Str} (h:As z) (c:Nat):∀p∈Txt.split z ⟨#[c]⟩,As p:=fun p hp d hd=>by
 have e2:=congrArg Tx.sg (StrLaws.join_split z ⟨#[c]⟩)
 rw [Tx.sg_join] at e2
 exact h d (e2▸qnX (List.mem_map.mpr ⟨p,hp,rfl⟩) hd)
theorem qov {c:Nat} (hc:c<128) {ys:List Str} (h:∀y∈ys,As y):As (Txt.join ⟨#[c]⟩ ys):=fun d hd=>by
 rw [Tx.txt_join] at hd
 rcases Tx.jn_mem hd with e | ⟨x,hx,hd⟩
 · omega
 · obtain ⟨y,hy,rfl⟩:=List.mem_map.mp hx
   exact h y hy d hd
end L2
namespace L2
open PySem PySem.Spec PyProof.Rows
def wdB (z:Str):Bool:=decide (1≤z.length)&&decide (z.length≤8)&&(Tx.sg z).all fun c=>decide (97≤c)&&decide (c≤122)
def rN (z:Str):Option (List Str) :=
 if Txt.split z " " = [("" : Str)] then some [] else
 if ((Txt.split z " ").all fun w=>wdB w&&!decide (w=("none" : Str)))=true∧(Txt.split z " ").length≤8∧cnt (Txt.split z " ")=(Txt.split z " ").length then some (Txt.split z " ") else none
end L2
namespace L2
open PySem PySem.Spec PyProof.Rows
section
variable {K:PySem.W.Frag} {n k:Nat} {H0 H H1:Hp} {pl:Addr} {ys:List V} {Q:VK}
end
end L2
namespace L2
open PySem PySem.Spec PyProof.Rows
theorem qqu {c:Nat}:∀xs:List (List Nat),(Tx.jn c xs.reverse).length=(Tx.jn c xs).length:=by
 have tot:∀xs:List (List Nat),(Tx.jn c xs).length+(if xs=[] then 1 else 0)+1=(xs.map fun x=>x.length+1).sum+(if xs=[] then 2 else 0):=by
   intro xs
   induction xs with
   | nil=>rfl
   | cons x r ih =>
     cases r with
     | nil=>simp [Tx.jn]
     | cons y r =>
       rw [Tx.jn_cons (by simp),List.length_append,List.length_cons]
       rw [if_neg (by simp),if_neg (by simp)] at ih ⊢
       rw [List.map_cons,List.sum_cons]
       omega
 intro xs
 have h1:=tot xs
 have h2:=tot xs.reverse
 have e:(xs.reverse.map fun x=>x.length+1).sum=(xs.map fun x=>x.length+1).sum:=by
   rw [List.map_reverse,List.sum_reverse]
 rw [e] at h2
 by_cases h0:xs=[]
 · rw [h0];rfl
 · rw [if_neg h0,if_neg h0] at h1
   rw [if_neg (by simpa using h0),if_neg (by simpa using h0)] at h2
   omega
theorem turned {z:Str} (h:As z) {c:Nat} (hc:c<128):As (Txt.join ⟨#[c]⟩ (Txt.split z ⟨#[c]⟩).reverse)∧(Txt.join ⟨#[c]⟩ (Txt.split z ⟨#[c]⟩).reverse).length=z.length:=by
 refine ⟨qov hc fun y hy=>qoU h c y (List.mem_reverse.mp hy),?_⟩
 have e2:=congrArg Tx.sg (StrLaws.join_split z ⟨#[c]⟩)
 rw [Tx.sg_join] at e2
 rw [←Tx.len_sg,Tx.txt_join,List.map_reverse,qqu,e2,Tx.len_sg]
theorem qmR {c:Nat}:∀{L:List Nat},L.Nodup→(∀x∈L,x=c)→c∈L→L=[c]
 | [],_,_,h=>by cases h
 | x::r,nd,h,_=>by
   have e:=h x List.mem_cons_self
   subst e
   cases r with
   | nil=>rfl
   | cons y r =>
     have:=h y (List.mem_cons_of_mem _ List.mem_cons_self)
     subst this
     exact absurd List.mem_cons_self (List.nodup_cons.mp nd).1
theorem qcb {ws:List Str} (nd:ws.Nodup) (w:Str):(List.range ws.length).filter (fun k=>decide (ws.getD k Str.empty=w))=if w∈ws then [ws.idxOf w] else []:=by
 have at':∀k,k<ws.length→ws[k]?=some (ws.getD k Str.empty):=fun k hk=>by rw [List.getD_eq_getElem?_getD,List.getElem?_eq_getElem hk];rfl
 by_cases h:w∈ws
 · rw [if_pos h]
   have hl:=List.idxOf_lt_length_of_mem h
   refine qmR (List.nodup_range.sublist List.filter_sublist) (fun x hx=>?_) ?_
   · obtain ⟨h1,h2⟩:=List.mem_filter.mp hx
     have h1:=List.mem_range.mp h1
     have h2:=of_decide_eq_true h2
     have e1:=at' x h1
     have e2:ws[ws.idxOf w]?=some w:=by rw [List.getElem?_eq_getElem hl,List.getElem_idxOf]
     rw [h2] at e1
     obtain ⟨q1,q2⟩:=List.getElem?_eq_some_iff.mp e1
     obtain ⟨q3,q4⟩:=List.getElem?_eq_some_iff.mp e2
     exact (List.getElem_inj nd).mp (q2.trans q4.symm)
   · refine List.mem_filter.mpr ⟨List.mem_range.mpr hl,decide_eq_true ?_⟩
     have e2:ws[ws.idxOf w]?=some w:=by rw [List.getElem?_eq_getElem hl,List.getElem_idxOf]
     have:=at' _ hl
     rw [e2] at this
     exact (Option.some.inj this).symm
 · rw [if_neg h,List.filter_eq_nil_iff]
   intro k hk z
   have z:=of_decide_eq_true z
   exact h (z▸List.mem_of_getElem? (at' k (List.mem_range.mp hk)))
theorem qjh (L:List Nat) (k:Nat):Fam.ofN (L++[k])=Fam.ofN L|||2^k:=by
 unfold Fam.ofN
 rw [List.foldl_append]
 rfl
end L2
namespace Fam
end Fam
namespace L2
open PySem PySem.Spec PyProof.Rows
section
variable {K:PySem.W.Frag} {g:TG} {tb:TS} {D:qf0} {σ:L2.St} {H:Hp} {a:Addr} {ta:TA}
end
inductive Pap (H:Hp) (fs gs:List Nat) (m:Nat):Nat→Nat→Nat→Addr→Prop
 | one {n ti to:Nat} {t:Addr} {j b:Nat} (h:H t=some (.tup [.str "one",.int (j:Nat)])) (h1:fs[j]?=some b) (h2:Fam.sub b ti):Pap H fs gs m (n+1) ti to t
 | other {n ti to:Nat} {t:Addr} {j b:Nat} (h:H t=some (.tup [.str "other",.int (j:Nat)])) (h1:gs[j]?=some b) (h2:Fam.sub b to):Pap H fs gs m (n+1) ti to t
 | name {n ti to:Nat} {t u v:Addr} {k:Nat} (h:H t=some (.tup [.str "name",.int (k:Nat),.ref u,.ref v])) (hk:k<m) (h1:ti.testBit k=false) (h2:to.testBit k=false) (p1:Pap H fs gs m n (ti|||2^k) to u) (p2:Pap H fs gs m n ti (to|||2^k) v):Pap H fs gs m (n+1) ti to t
end L2
namespace L2
open PySem PySem.Spec PyProof.Rows
section
variable {X:Cx} {pins:List (Addr×Obj)} {σ:St} {H:Hp} {s:Shared} {h':Heap} {K:PySem.W.Frag}
theorem Inv.turnedL {t':Nat} {ch:List Addr} (I:Inv X pins σ H s) (k:∀b o,b∉ch→s.heap.get? b=some o→h'.get? b=some o) (f:∀b∈ch,qkr X pins H b):Inv X pins σ H { s with heap:=h',toks:=t' }:=by
 have nit:∀b u,H b=some u→b∉ch:=fun b u q z=>by rw [(f b z).1] at q;cases q
 refine I.step (g':=s.gens) (d':=s.drawn) (ch:=ch) (fun b hb=>⟨(f b hb).2.2.2.1,(f b hb).2.1,(f b hb).2.2.2.2.1,(f b hb).2.2.2.2.2⟩) (fun b o _ _ hc q _=>k b o hc q) (fun b o _ _ hc q _=>⟨o.slots,k b o hc q⟩) (fun _ _ _ _ n=>n)
   (fun b o hc q=>⟨o,k b o hc q⟩) (fun _ _ q=>q) (fun _ _ _ q=>q) (fun b ps q=>⟨#[],by rw [q];simp⟩) (fun m hm=>?_) (fun b u q=>?_) I.bare
 · obtain ⟨o,es,ep,ho,r⟩:=hm
   exact ⟨o,es,ep,k _ o (fun z=>(f _ z).2.1 rfl) ho,r⟩
 · refine (I.hok b u q).stay (fun c v hc z=>k c v ?_ z) (fun _ z=>z) fun _ _ z=>z
   rcases hc with y | y
   · rw [y];exact nit b u q
   · exact nit c _ y
end
section
variable {K:PySem.W.Frag} {g:TG} {tb:TS} {D:qf0} {σ:L2.St} {H:Hp} {a b:Addr} {ta:TA}
end
end L2
namespace L2
open PySem PySem.Spec PyProof.Rows
def KDt (P:Program) (w:World) (K:PySem.W.Frag) (a:Addr) (kvs:List (Key×V)):Prop :=
 (a==sysModules)=false∧∃(o:Obj) (vs:List (Key×Value)),K.lookup a=some o∧KV kvs vs∧∀h:Heap,h.get? a=some o→h.DictOf (qa9 P w) a vs
section
variable {X:Cx} {pins:List (Addr×Obj)} {σ:St} {H:Hp} {s:Shared} {a:Addr} {kvs:List (Key×V)} {P:Program} {w:World} {K:PySem.W.Frag}
theorem Inv.kdt (I:Inv X pins σ H s) (h:KDt X.prog X.w X.K a kvs):(a==sysModules)=false∧∃vs,KV kvs vs∧s.heap.DictOf (qa9 X.prog X.w) a vs:=by
 obtain ⟨z,o,vs,lk,r,d⟩:=h
 exact ⟨z,vs,r,d _ (I.kIn a o lk)⟩
def qqt (P:Program) (w:World) (K:PySem.W.Frag) (td ty:TE):TE:=fun σ H Q=>td σ H fun x H1=>ty σ H1 fun y H2=>∃(a:Addr) (kvs:List (Key×V)) (k:Key) (v:V),x = .ref a∧y=kV k∧KDt P w K a kvs∧qc5 kvs k=some v∧Q v H2
def qqV (P:Program) (w:World) (K:PySem.W.Frag) (ty td:TE):TE:=fun σ H Q=>ty σ H fun y H1=>td σ H1 fun x H2=>∃(a:Addr) (kvs:List (Key×V)) (k:Key),x = .ref a∧y=kV k∧KDt P w K a kvs∧Q (.bl (!(qc5 kvs k).isSome)) H2
variable {o i:Expr} {pos:Pos} {td ty:TE}
theorem qiJ (hP:X.prog=P) (hw:X.w=w) (hK:X.K=K) (ho:PE X o td) (hi:PE X i ty) (hs:qr9 i):PE X (.Subscript o i pos) (qqt P w K td ty):=by
 subst hP hw hK
 intro pins s σ H Q I h
 refine qlf PySem.F.slot_dict_getitem.lookup hs (thn (ho pins s σ H _ I h) fun u s1 ⟨x,H1,I1,rx,q1⟩=>thn (hi pins s1 σ H1 _ I1 q1) fun iv s2 ⟨y,H2,I2,ry,b,kvs,k,v,ex,ey,g,hv,q2⟩=>?_)
 subst ex ey
 obtain rfl:u=Value.ref b:=rx
 obtain ⟨_,vs,rel,dd⟩:=I2.kdt g
 obtain ⟨w',hw,rw'⟩:=qhR.some_of (v:=v) (o:=valueAt vs k) (by rw [←hv];exact rel.val k)
 exact ⟨dd.typeIs,wpAny_getItem_of (qjR ry) dd.mapOf hw ⟨v,H2,I2.tok _,rw',q2⟩⟩
theorem qoV (hP:X.prog=P) (hw:X.w=w) (hK:X.K=K) (hi:PE X i ty) (ho:PE X o td):PC X .NotIn i o (qqV P w K ty td):=by
 subst hP hw hK
 intro pins s σ H Q I h
 refine thn (hi pins s σ H _ I h) fun iv s1 ⟨y,H1,I1,ry,q1⟩=>thn (ho pins s1 σ H1 _ I1 q1) fun u s2 ⟨x,H2,I2,rx,b,kvs,k,ex,ey,g,q2⟩=>?_
 subst ex ey
 obtain rfl:u=Value.ref b:=rx
 obtain ⟨hd,vs,rel,dd⟩:=I2.kdt g
 refine wpAny_notIn_of (qjR ry) hd dd.mapOf ?_
 rw [←(rel.val k).isSome_eq]
 exact ⟨.bl _,H2,I2.tok _,rfl,q2⟩
end
section
variable {X:Cx}
def qpK:V→List V→Hp→VK→Prop:=fun x vs H Q=>∃(z y:Str) (n:Nat),x = .str z∧vs=[.str y,.int (n:Nat)]∧(y.length==0)=false∧z.length≤100000∧n≤1000∧∀l,H l=none→Q (.ref l) (upd H l (.lst (sV (Txt.splitMax z y (n:Int)))))
theorem qrl (z y:Str) (n:Int):(Txt.splitMax z y n).length≤z.length+2:=by
 unfold Txt.splitMax
 split
 · exact Nat.le_add_left _ _
 · split
   · exact Nat.le_add_left _ _
   · have e1:=StrLaws.occ_length_le_len z y 0 z.length (limitOf z n)
     rw [length_partsBetween]
     omega
theorem qli:MtM X "str.split" qpK:=by
 intro pins s σ H x vs v us Q I rx rv h
 obtain ⟨z,y,n,rfl,rfl,hy,hz,hn,q⟩:=h
 obtain ⟨t,rfl⟩:=rx
 obtain ⟨u,u3,rfl,ru,ru3⟩:=qoK rv
 obtain ⟨t2,rfl⟩:=ru
 obtain ⟨t3,rfl⟩:=ru3
 have hl:=qrl z y (n:Int)
 have e24:sizeLine=16777216:=sizeLine_eq
 have hk:(decide ((n:Int) < -(2^63:Int))||decide ((n:Int)≥2^63))=false:=by
   rw [decide_eq_false (by omega),decide_eq_false (by omega)]
   rfl
 have fin:∀(l:List (Str×Tok)) (k:Nat),l.map (·.1)=Txt.splitMax z y (n:Int)→EP X pins σ Q (.ref s.heap.objs.size) { s with heap:=s.heap.push { cls := .type "list",data := .seq (strValues l).toArray },toks:=k }:=fun l k e =>
   ⟨.ref s.heap.objs.size,_,I.lnew (ys:=sV (Txt.splitMax z y (n:Int))) (t':=k) (by rw [←e];exact qff l) (by rw [List.length_map];omega),rfl,q _ I.fresh⟩
 cases h1:(decide (z.length<y.length)||decide (Builtin.Str.strKind z<Builtin.Str.strKind y)) with
 | true=>exact call_meets F.slot_str_split (typeIs_str _ _ _) F.entry_str_split (F.args_str_split_3 _ _ _) (meets_str_split_max_cannot_occur z y n t t2 t3 hk h1) (fin [(z,t)] s.toks (if_pos h1).symm)
 | false =>
   cases h2:(Builtin.Str.occurrences z y 0 z.length (limitOf z n)).isEmpty with
   | true=>exact call_meets F.slot_str_split (typeIs_str _ _ _) F.entry_str_split (F.args_str_split_3 _ _ _) (meets_str_split_max_not_found z y n t t2 t3 hk h1 hy h2) (fin [(z,t)] s.toks ((if_neg (ne_true_of_eq_false h1)).trans (if_pos h2)).symm)
   | false =>
     have es:Txt.splitMax z y (n:Int)=Builtin.Str.partsBetween z (Builtin.Str.occurrences z y 0 z.length (limitOf z n)) y.length:=(if_neg (ne_true_of_eq_false h1)).trans (if_neg (ne_true_of_eq_false h2))
     refine call_meets F.slot_str_split (typeIs_str _ _ _) F.entry_str_split (F.args_str_split_3 _ _ _) (meets_str_split_sep_max z y n t t2 t3 hk h1 hy h2 (by omega) (by rw [←es];omega)) ?_
     rw [strsFrom_eq]
     exact fin (numbered s.toks _) _ ((numbered_texts _ _).trans es.symm)
end
end L2
namespace L2
open PySem PySem.Spec PyProof.Rows
structure Drw (P:Program) (w:World) (it src:Addr) (tn:Nat→Heap→Prop) (vs:Array Value):Prop where
 item:∀{A:Around} {E:Value→Shared→Prop} {s:Shared} {k:Nat} {x:Value} {Q:Value→Shared→Prop},tn k s.heap→vs[k]?=some x→(∀g,tn (k+1) g→Heap.SameBut it s.heap g→Q x { s with heap:=g })→wpAny (model P w) A (Builtin.SmallTypes.nextOf (.ref it)) Q E s
 stop:∀{A:Around} {E:Value→Shared→Prop} {s:Shared} {k:Nat} {Q:Value→Shared→Prop},A.handled=none→tn k s.heap→vs[k]?=none→(∀g e,Heap.ExtBut it s.heap g→(∃o,g.get? e=some o∧o.cls = .type "StopIteration")→E (.ref e) { s with heap:=g })→wpAny (model P w) A (Builtin.SmallTypes.nextOf (.ref it)) Q E s
 keep:∀{k:Nat} {h g:Heap},tn k h→(∀b o,(b=it∨b=src)→h.get? b=some o→g.get? b=some o)→tn k g
 rcd:∀{k:Nat} {h:Heap},tn k h→∃o,h.get? it=some o∧∀v,o.data ≠ .cell v
section
variable {P:Program} {w:World} {it src:Addr} {vs:Array Value}
theorem Drw.list (ne:src≠it):Drw P w it src (fun k h=>h.IsListIter it src k∧h.IsList src vs) vs where
 item:=fun ⟨h1,h2⟩ hx q=>wpAny_nextOf_list_item h1 h2 hx fun g a b=>q g ⟨a,h2.extBut b.extBut ne⟩ b
 stop:=fun hh ⟨h1,h2⟩ hx q=>wpAny_nextOf_list_end hh h1 h2 hx q
 keep:=fun ⟨h1,h2⟩ k=>⟨h1.at fun o e=>k it o (.inl rfl) e,h2.at fun o e=>k src o (.inr rfl) e⟩
 rcd:=fun ⟨⟨o,e,_,d⟩,_⟩=>⟨o,e,fun v z=>by rw [d] at z;cases z⟩
theorem Drw.tup (ne:src≠it):Drw P w it src (fun k h=>IsTupIter h it src k∧IsTup h src vs) vs where
 item:=by
   rintro A E s k x Q ⟨h1,h2⟩ hx q
   obtain ⟨oi,gi,ci,di⟩:=id h1
   obtain ⟨ot,gt,ct,nt,dt⟩:=id h2
   unfold Builtin.SmallTypes.nextOf
   refine wpAny_bind (wpAny_callSpecial?_slot (name:=Str.ofString "__next__") h1.typeIs slot_tupleiter_next (wpAny_call_entry slot_tupleiter_next h1.typeIs entry_tupleiter_next ?_ (args_tupleiter_next _)))
   show wpAny _ _ (field (.ref it) 0 >>= _) _ _ s;refine wpAny_bind (wpAny_field gi di (x := .ref src) rfl ?_)
   show wpAny _ _ (if (Value.ref src==Value.none)=true then _ else _) _ _ s;rw [if_neg (show ¬((Value.ref src==Value.none)=true) from Bool.false_ne_true)]
   show wpAny _ _ (field (.ref it) 1 >>= _) _ _ s;refine wpAny_bind (wpAny_field gi di (x := .int k 0) rfl ?_)
   show wpAny _ _ (seqItems? (.ref src) >>= _) _ _ s;refine wpAny_bind (wpAny_seqItems gt dt ?_)
   simp only [Int.toNat_natCast,hx]
   have st:IsTupIter (s.heap.update it (Obj.mapFields (·.setIfInBounds 1 (rawInt (k+1))))) it src (k+1) :=
     ⟨_,Heap.get?_update_self _ gi (Obj.isFreed_of_fields (Obj.data_mapFields di _)),(Obj.cls_mapFields ..).trans ci,by rw [Obj.data_mapFields di];simp [rawInt]⟩
   refine wpAny_bind (wpAny_setField gi di (by simp) (wpAny_pure ⟨x,rfl,wpAny_pure (q _ ⟨st,ot,?_,ct,nt,dt⟩ (Heap.SameBut.update ..))⟩))
   rw [Heap.get?_update_other _ _ (Ne.symm ne)]
   exact gt
 stop:=by
   rintro A E s k Q hh ⟨h1,h2⟩ hx q
   obtain ⟨oi,gi,ci,di⟩:=id h1
   obtain ⟨ot,gt,ct,nt,dt⟩:=id h2
   unfold Builtin.SmallTypes.nextOf
   refine wpAny_bind (wpAny_callSpecial?_slot (name:=Str.ofString "__next__") h1.typeIs slot_tupleiter_next (wpAny_call_entry slot_tupleiter_next h1.typeIs entry_tupleiter_next ?_ (args_tupleiter_next _)))
   show wpAny _ _ (field (.ref it) 0 >>= _) _ _ s;refine wpAny_bind (wpAny_field gi di (x := .ref src) rfl ?_)
   show wpAny _ _ (if (Value.ref src==Value.none)=true then _ else _) _ _ s;rw [if_neg (show ¬((Value.ref src==Value.none)=true) from Bool.false_ne_true)]
   show wpAny _ _ (field (.ref it) 1 >>= _) _ _ s;refine wpAny_bind (wpAny_field gi di (x := .int k 0) rfl ?_)
   show wpAny _ _ (seqItems? (.ref src) >>= _) _ _ s;refine wpAny_bind (wpAny_seqItems gt dt ?_)
   simp only [Int.toNat_natCast,hx]
   refine wpAny_bind (wpAny_rule (wpAny_bind (wpAny_setField gi di (by simp) ?_)));show wpAny _ _ (newExc (.type "StopIteration") [] >>= _) _ _ _
   refine wpAny_bind ?_;simp only [newExc,newTuple];refine wpAny_bind (wpAny_newObj_type ?_ (by size_fits))
   refine wpAny_bind (m:=firstArgMember _ _) (wpAny_of_eq (a:=Value.none) (by first | rfl | (simp only [firstArgMember];rfl)) (wpAny_newObj_type ?_ (by size_fits)))
   simp only [raiseNew];refine wpAny_bind (wpAny_handled ?_);first | rw [show A.in1.handled=none from hh] | rw [hh]
   exact wpAny_bind (wpAny_pure (wpAny_throw (q _ _ (((Heap.SameBut.update ..).extBut.push _).push _) ⟨_,Heap.get?_push_size _ rfl,rfl⟩)))
 keep:=fun ⟨h1,h2⟩ k=>by
   obtain ⟨oi,gi,ri⟩:=h1
   obtain ⟨ot,gt,rt⟩:=h2
   exact ⟨⟨oi,k it oi (.inl rfl) gi,ri⟩,ot,k src ot (.inr rfl) gt,rt⟩
 rcd:=fun ⟨⟨o,e,_,d⟩,_⟩=>⟨o,e,fun v z=>by rw [d] at z;cases z⟩
variable {A:Around} {E:Value→Shared→Prop} {s:Shared} {z TI TO i1 i2 l1 l2:Addr} {t1 t2:Nat→Heap→Prop} {xs ys:Array Value} {k:Nat} {a b:Value}
theorem qqa {x y:Value} {Q:Option Value→Shared→Prop} (D:ZipApart z TI TO i1 i2 l1 l2) (D1:Drw P w i1 l1 t1 xs) (D2:Drw P w i2 l2 t2 ys)
   (hz:IsZip s.heap z TI TO .none) (hI:IsPair s.heap TI (.ref i1) (.ref i2)) (hO:IsPair s.heap TO a b) (c1:t1 k s.heap) (c2:t2 k s.heap) (hx:xs[k]?=some x) (hy:ys[k]?=some y)
   (q:∀g,IsZip g z TI TO (rawInt s.heap.objs.size)→IsPair g TO x y→t1 (k+1) g→t2 (k+1) g→IsPair g s.heap.objs.size x y→(∀c o,c≠z→c≠TO→c≠i1→c≠i2→s.heap.get? c=some o→g.get? c=some o)→Q (some (.ref s.heap.objs.size)) { s with heap:=g }) :
   wpAny (model P w) A (pyNext (.ref z)) Q E s:=by
 have tz:s.TypeIs (.ref z) "zip" := ⟨_,hz,rfl⟩
 unfold pyNext
 refine wpAny_bind (wpAny_attempt (wpAny_callSpecial?_slot (name:=Str.ofString "__next__") tz F.slot_zip_next (wpAny_call_entry F.slot_zip_next tz F.entry_zip_next ?_ (F.args_zip_next_1 _))))
 show wpAny _ _ (field (.ref z) 2 >>= _) _ _ _;refine wpAny_bind (wpAny_field hz rfl (x := .bool false) rfl ?_);show wpAny _ _ (field (.ref z) 3 >>= _) _ _ _
 refine wpAny_bind (wpAny_field hz rfl (x := .ref TI) rfl (wpAny_bind (wpAny_seqItems hI rfl ?_)));show wpAny _ _ (Builtin.SmallTypes.ownedTupleIsFree (.ref z) >>= _) _ _ _
 refine wpAny_bind ?_;unfold Builtin.SmallTypes.ownedTupleIsFree;refine wpAny_bind (wpAny_field hz rfl (x := .none) rfl (wpAny_pure ?_));simp only [if_true]
 refine wpAny_bind (wpAny_rule (wpAny_bind (wpAny_field hz rfl (x := .ref TO) rfl ?_)));refine wpAny_bind (wpAny_setField_rec hz (by simp) fun g1 e1 m1=>?_)
 replace e1:IsZip g1 z TI TO .ellipsis:=e1;refine wpAny_bind ?_;simp only [List.zipIdx_cons,List.zipIdx_nil,List.forIn_cons,List.forIn_nil]
 have c1':t1 k g1:=D1.keep c1 fun b o hb e=>m1.extBut _ _ (by rcases hb with rfl | rfl;exact D.i1z;exact D.l1z) e
 have c2':t2 k g1:=D2.keep c2 fun b o hb e=>m1.extBut _ _ (by rcases hb with rfl | rfl;exact D.i2z;exact D.l2z) e
 refine wpAny_bind (wpAny_bind (wpAny_onRaise ?_));show wpAny _ _ (Builtin.SmallTypes.nextOf (.ref i1) >>= _) _ _ _
 refine wpAny_bind (D1.item (s:={ s with heap:=g1 }) c1' hx fun g2 d1 m2=>wpAny_pure ?_)
 have o2:IsPair g2 TO a b:=m2.extBut _ _ D.TOi1 (m1.extBut _ _ D.TOz hO)
 refine wpAny_bind (wpAny_seqItems o2 rfl (wpAny_bind (wpAny_updateSeq_pair o2 fun g3 o3 m3=>wpAny_bind (wpAny_letGo (wpAny_pure ?_)))));replace o3:IsPair g3 TO x b:=o3
 have c2':t2 k g3:=D2.keep c2' fun b o hb e=>m3.extBut _ _ (by rcases hb with rfl | rfl;exact D.TOi2.symm;exact D.l2TO) (m2.extBut _ _ (by rcases hb with rfl | rfl;exact D.i12.symm;exact D.l2i1) e)
 refine wpAny_bind (wpAny_bind (wpAny_onRaise ?_));show wpAny _ _ (Builtin.SmallTypes.nextOf (.ref i2) >>= _) _ _ _
 refine wpAny_bind (D2.item (s:={ s with heap:=g3 }) c2' hy fun g4 d2 m4=>wpAny_pure ?_)
 have o4:IsPair g4 TO x b:=m4.extBut _ _ D.TOi2 o3
 refine wpAny_bind (wpAny_seqItems o4 rfl (wpAny_bind (wpAny_updateSeq_pair o4 fun g5 o5 m5=>wpAny_bind (wpAny_letGo (wpAny_pure (wpAny_pure ?_))))));replace o5:IsPair g5 TO x y:=o5
 refine wpAny_bind (wpAny_seqItems o5 rfl (wpAny_bind (wpAny_newTuple ?_)))
 have sz:g5.objs.size=s.heap.objs.size:=by rw [m5.1,m4.1,m3.1,m2.1,m1.1]
 have z5:IsZip g5 z TI TO .ellipsis:=m5.extBut _ _ D.TOz.symm (m4.extBut _ _ D.i2z.symm (m3.extBut _ _ D.TOz.symm (m2.extBut _ _ D.i1z.symm e1)))
 have old:∀c o,c≠z→c≠TO→c≠i1→c≠i2→s.heap.get? c=some o→g5.get? c=some o:=fun c o n1 n2 n3 n4 e=>m5.extBut _ _ n2 (m4.extBut _ _ n4 (m3.extBut _ _ n2 (m2.extBut _ _ n3 (m1.extBut _ _ n1 e))))
 have d1':t1 (k+1) g5:=D1.keep d1 fun b o hb e=>m5.extBut _ _ (by rcases hb with rfl | rfl;exact D.TOi1.symm;exact D.l1TO) (m4.extBut _ _ (by rcases hb with rfl | rfl;exact D.i12;exact D.l1i2) (m3.extBut _ _ (by rcases hb with rfl | rfl;exact D.TOi1.symm;exact D.l1TO) e))
 have d2':t2 (k+1) g5:=D2.keep d2 fun b o hb e=>m5.extBut _ _ (by rcases hb with rfl | rfl;exact D.TOi2.symm;exact D.l2TO) e
 have zl:z<g5.objs.size:=Heap.lt_size z5
 show wpAny _ _ (Builtin.SmallTypes.ownedTupleHandOut (.ref z) (.ref g5.objs.size) >>= _) _ _ _;refine wpAny_bind ?_;unfold Builtin.SmallTypes.ownedTupleHandOut
 have z6:IsZip (g5.push { cls := .type "tuple",data := .seq #[x,y] }) z TI TO .ellipsis:=Heap.get?_push_of_some _ z5
 refine wpAny_bind (wpAny_setField_rec z6 (by simp) fun g7 z7 m7=>?_);replace z7:IsZip g7 z TI TO (rawInt g5.objs.size):=z7
 refine wpAny_setField_rec z7 (by simp) fun g8 z8 m8=>?_;replace z8:IsZip g8 z TI TO (rawInt g5.objs.size):=z8
 have up:∀c o,c≠z→g5.get? c=some o→g8.get? c=some o:=fun c o n e=>m8.extBut _ _ n (m7.extBut _ _ n (Heap.get?_push_of_some _ e))
 have p8:IsPair g8 g5.objs.size x y:=m8.extBut _ _ (Nat.ne_of_gt zl) (m7.extBut _ _ (Nat.ne_of_gt zl) (Heap.get?_push_size _ rfl))
 rw [sz] at z8 p8
 refine wpAny_pure ⟨_,rfl,wpAny_pure ?_⟩
 show Q (some (.ref g5.objs.size)) _;rw [sz]
 exact q g8 z8 (up _ _ D.TOz o5) (D1.keep d1' fun b o hb e=>up b o (by rcases hb with rfl | rfl;exact D.i1z;exact D.l1z) e) (D2.keep d2' fun b o hb e=>up b o (by rcases hb with rfl | rfl;exact D.i2z;exact D.l2z) e) p8 fun c o n1 n2 n3 n4 e=>up c o n1 (old c o n1 n2 n3 n4 e)
theorem qoS {Q:Option Value→Shared→Prop} (hh:A.handled=none) (D:ZipApart z TI TO i1 i2 l1 l2) (D1:Drw P w i1 l1 t1 xs)
   (hz:IsZip s.heap z TI TO .none) (hI:IsPair s.heap TI (.ref i1) (.ref i2)) (hO:IsPair s.heap TO a b) (c1:t1 k s.heap) (hx:xs[k]?=none)
   (q:∀g,(∀c o,c≠z→c≠TO→c≠i1→c≠i2→s.heap.get? c=some o→g.get? c=some o)→Q none { s with heap:=g }):wpAny (model P w) A (pyNext (.ref z)) Q E s:=by
 have tz:s.TypeIs (.ref z) "zip" := ⟨_,hz,rfl⟩
 unfold pyNext
 refine wpAny_bind (wpAny_attempt (wpAny_callSpecial?_slot (name:=Str.ofString "__next__") tz F.slot_zip_next (wpAny_call_entry F.slot_zip_next tz F.entry_zip_next ?_ (F.args_zip_next_1 _))))
 show wpAny _ _ (field (.ref z) 2 >>= _) _ _ _;refine wpAny_bind (wpAny_field hz rfl (x := .bool false) rfl ?_);show wpAny _ _ (field (.ref z) 3 >>= _) _ _ _
 refine wpAny_bind (wpAny_field hz rfl (x := .ref TI) rfl (wpAny_bind (wpAny_seqItems hI rfl ?_)));show wpAny _ _ (Builtin.SmallTypes.ownedTupleIsFree (.ref z) >>= _) _ _ _
 refine wpAny_bind ?_;unfold Builtin.SmallTypes.ownedTupleIsFree;refine wpAny_bind (wpAny_field hz rfl (x := .none) rfl (wpAny_pure ?_));simp only [if_true]
 refine wpAny_bind (wpAny_rule (wpAny_bind (wpAny_field hz rfl (x := .ref TO) rfl ?_)));refine wpAny_bind (wpAny_setField_rec hz (by simp) fun g1 e1 m1=>?_)
 replace e1:IsZip g1 z TI TO .ellipsis:=e1;refine wpAny_bind ?_;simp only [List.zipIdx_cons,List.zipIdx_nil,List.forIn_cons,List.forIn_nil]
 have c1':t1 k g1:=D1.keep c1 fun b o hb e=>m1.extBut _ _ (by rcases hb with rfl | rfl;exact D.i1z;exact D.l1z) e
 refine wpAny_bind (wpAny_bind (wpAny_onRaise ?_));show wpAny _ _ (Builtin.SmallTypes.nextOf (.ref i1) >>= _) _ _ _
 refine wpAny_bind (D1.stop (s:={ s with heap:=g1 }) hh c1' hx fun g2 e m2 ⟨oe,ge,ce⟩=>?_)
 have z2:IsZip g2 z TI TO .ellipsis:=m2 _ _ D.i1z.symm e1
 have nz:e≠z:=fun x=>by subst x;rw [z2] at ge;cases ge;simp at ce
 refine wpAny_setField_rec z2 (by simp) fun g3 _ m3=>?_
 refine wpAny_bind (wpAny_isInstance (T := "StopIteration") (b:=true) ⟨oe,m3.extBut _ _ nz ge,ce⟩ isSubtype_stop (wpAny_pure (q g3 fun c o n1 _ n3 _ x=>m3.extBut _ _ n1 (m2 _ _ n3 (m1.extBut _ _ n1 x)))))
end
end L2
namespace Tx
open PySem
def qfU (c:Nat):List Nat→Nat→List Nat
 | [],_=>[]
 | d::r,k=>if d=c then k::qfU c r (k+1) else qfU c r (k+1)
theorem qgJ (c:Nat):∀(a b:List Nat) (k:Nat),qfU c (a++b) k=qfU c a k++qfU c b (k+a.length)
 | [],b,k=>rfl
 | d::r,b,k=>by
   show (if d=c then k::qfU c (r++b) (k+1) else qfU c (r++b) (k+1))=(if d=c then k::qfU c r (k+1) else qfU c r (k+1))++_
   rw [qgJ c r b (k+1),List.length_cons,show k+1+r.length=k+(r.length+1) by omega]
   split<;>rfl
theorem qiy (c:Nat):∀(a:List Nat) (k:Nat),c∉a→qfU c a k=[]
 | [],_,_=>rfl
 | d::r,k,h=>by
   show (if d=c then k::qfU c r (k+1) else qfU c r (k+1))=[]
   rw [if_neg (fun e:d=c=>h (by rw [e];exact List.mem_cons_self)),qiy c r (k+1) fun z=>h (List.mem_cons_of_mem _ z)]
theorem qfJ (c:Nat):∀(L:List Nat) (k:Nat),(List.range' k (L.length+1)).filter (fun i=>decide (L[i-k]?=some c))=qfU c L k
 | [],k=>by simp [List.range',qfU]
 | d::r,k=>by
   rw [List.length_cons,List.range'_succ,List.filter_cons]
   have ih:=qfJ c r (k+1)
   have e:(List.range' (k+1) (r.length+1)).filter (fun i=>decide ((d::r)[i-k]?=some c))=(List.range' (k+1) (r.length+1)).filter (fun i=>decide (r[i-(k+1)]?=some c)):=by
     refine List.filter_congr fun i hi=>?_
     have:=(List.mem_range'_1.mp hi).1
     rw [show i-k=(i-(k+1))+1 by omega,List.getElem?_cons_succ]
   rw [e,ih]
   show (if decide ((d::r)[k-k]?=some c)=true then _ else _)=if d=c then _ else _
   rw [Nat.sub_self,List.getElem?_cons_zero]
   by_cases h:d=c
   · rw [if_pos (by simpa using h),if_pos h]
   · rw [if_neg (by simpa using h),if_neg h]
theorem qgz (x:Str) (c k:Nat):∀(n a:Nat) (st:Array Nat×Nat),st.2≤a →
   (forIn (List.range' a n) st (StrLaws.occBody x ⟨#[c]⟩ x.length k)).run.fst.toList=st.1.toList++((List.range' a n).filter (fun i=>decide ((sg x)[i]?=some c))).take (k-st.1.size)
 | 0,a,st,_=>by simp [List.range']
 | n+1,a,st,h=>by
   rw [List.range'_succ,List.forIn_cons,List.filter_cons]
   unfold StrLaws.occBody
   have one:=StrLaws.subAt_one x c a
   by_cases hc:(sg x)[a]?=some c
   · have hA:=one.mpr hc
     rw [show decide ((sg x)[a]?=some c)=true from decide_eq_true hc]
     by_cases hk:st.1.size<k
     · rw [if_pos ⟨⟨⟨hk,h⟩,hA.1⟩,hA.2⟩]
       have ih:=qgz x c k n (a+1) (st.1.push a,a+1) (Nat.le_refl _)
       refine Eq.trans ih ?_
       rw [Array.toList_push,Array.size_push,List.append_assoc]
       congr 1
       obtain ⟨m,e⟩:∃m,k-st.1.size=m+1:=⟨k-st.1.size-1,by omega⟩
       rw [e,show k-(st.1.size+1)=m by omega]
       rfl
     · rw [if_neg fun z=>hk z.1.1.1]
       have ih:=qgz x c k n (a+1) (st.1,st.2) (Nat.le_succ_of_le h)
       refine Eq.trans ih ?_
       rw [show k-st.1.size=0 by omega]
       simp
   · rw [if_neg (fun z=>hc (one.mp ⟨z.1.2,z.2⟩)),show decide ((sg x)[a]?=some c)=false from decide_eq_false hc]
     exact qgz x c k n (a+1) (st.1,st.2) (Nat.le_succ_of_le h)
theorem qpd (x:Str) (c k:Nat):Builtin.Str.occurrences x ⟨#[c]⟩ 0 x.length k=(qfU c (sg x) 0).take k:=by
 rw [StrLaws.occ_eq]
 have h:=qgz x c k (x.length+1-0) 0 (#[],0) (Nat.le_refl _)
 refine Eq.trans h ?_
 have e:=qfJ c (sg x) 0
 rw [len_sg] at e
 simp only [Nat.sub_zero] at e ⊢
 rw [e]
 simp
theorem qiI {x:Str} {A B C:List Nat} (h:sg x=A++B++C):Builtin.Str.strSub x A.length (A.length+B.length)=⟨B.toArray⟩:=by
 refine ext ?_
 show (Builtin.Str.strSub x A.length (A.length+B.length)).cps.toList=_
 rw [StrLaws.strSub_toList,show x.cps.toList=A++B++C from h,Nat.add_sub_cancel_left,List.append_assoc,List.drop_left,List.take_left]
theorem qqW (x:Str) {c:Nat} (hc:c<256) (k:Nat):Txt.splitMax x ⟨#[c]⟩ (k:Int)=StrLaws.partsFrom x 1 0 ((qfU c (sg x) 0).take k):=by
 unfold Txt.splitMax
 have hl:limitOf x (k:Int)=k:=by
   unfold limitOf
   rw [if_neg (by omega),Int.toNat_natCast]
 have nil:(qfU c (sg x) 0).take k=[]→[x]=StrLaws.partsFrom x 1 0 ((qfU c (sg x) 0).take k):=fun e=>by
   rw [e]
   show [x]=[Builtin.Str.strSub x 0 x.length]
   rw [StrLaws.sub_whole]
 split
 · rename_i h
   refine nil ?_
   rw [Bool.or_eq_true,decide_eq_true_eq,decide_eq_true_eq] at h
   rcases h with h | h
   · have h:x.length<1:=h
     have:sg x=[]:=List.length_eq_zero_iff.mp (by rw [len_sg];omega)
     rw [this]
     simp [qfU]
   · have e1:Builtin.Str.strKind ⟨#[c]⟩=1:=by
       unfold Builtin.Str.strKind
       rw [if_pos (by simp [hc])]
     have:1≤Builtin.Str.strKind x:=by
       unfold Builtin.Str.strKind
       split
       · decide
       · split<;>decide
     omega
 · rw [hl,qpd]
   split
   · rename_i h
     exact nil (List.isEmpty_iff.mp h)
   · rw [StrLaws.partsBetween_eq]
     rfl
theorem max_two {x a b r:Str} {c:Nat} (hc:c<256) (h:sg x=sg a++c::(sg b++c::sg r)) (ha:c∉sg a) (hb:c∉sg b):Txt.splitMax x ⟨#[c]⟩ 2=[a,b,r]:=by
 have e:Txt.splitMax x ⟨#[c]⟩ ((2:Nat):Int)=_:=qqW x hc 2
 refine Eq.trans e ?_
 have e1:qfU c (sg x) 0=(sg a).length::((sg a).length+1+(sg b).length)::qfU c (sg r) ((sg a).length+1+(sg b).length+1):=by
   rw [h,qgJ,qiy c _ _ ha]
   show (if c=c then _ else _)=_
   rw [if_pos rfl,qgJ,qiy c _ _ hb]
   show _::(if c=c then _ else _)=_
   rw [if_pos rfl,Nat.zero_add]
 rw [e1]
 show [Builtin.Str.strSub x 0 (sg a).length,Builtin.Str.strSub x ((sg a).length+1) ((sg a).length+1+(sg b).length),Builtin.Str.strSub x ((sg a).length+1+(sg b).length+1) x.length]=_
 have z1:=qiI (x:=x) (A:=[]) (B:=sg a) (C:=c::(sg b++c::sg r)) (by simpa using h)
 have z2:=qiI (x:=x) (A:=sg a++[c]) (B:=sg b) (C:=c::sg r) (by rw [h];simp)
 have z3:=qiI (x:=x) (A:=sg a++[c]++sg b++[c]) (B:=sg r) (C:=[]) (by rw [h];simp)
 have hl:x.length=(sg a).length+1+(sg b).length+1+(sg r).length:=by
   rw [←len_sg,h]
   simp only [List.length_append,List.length_cons]
   omega
 rw [hl]
 simp only [List.length_append,List.length_cons,List.length_nil,Nat.zero_add] at z1 z2 z3
 rw [z1,z2,z3]
theorem split_cons {x a r:Str} {c:Nat} (h:sg x=sg a++c::sg r) (ha:c∉sg a):Txt.split x ⟨#[c]⟩=a::Txt.split r ⟨#[c]⟩:=by
 have hp:=PyProof.Rows.split_pos r ⟨#[c]⟩
 have ne:Txt.split r ⟨#[c]⟩≠[]:=fun z=>by rw [z] at hp;exact absurd hp (by decide)
 have e:x=Txt.join ⟨#[c]⟩ (a::Txt.split r ⟨#[c]⟩):=by
   refine ext ?_
   have e1:=congrArg sg (StrLaws.join_split r ⟨#[c]⟩)
   rw [sg_join] at e1
   rw [txt_join,List.map_cons,jn_cons (by simpa using ne),e1,h]
 rw [e]
 refine split_join (by simp) fun w hw=>?_
 rcases List.mem_cons.mp hw with rfl | hw
 · exact ha
 · exact StrLaws.split_free r c w hw
theorem split_nofree {x:Str} {c:Nat} (h:c∉sg x):Txt.split x ⟨#[c]⟩=[x]:=by
 have:=split_join (c:=c) (ws:=[x]) (by simp) (fun w hw=>by rw [List.mem_singleton.mp hw];exact h)
 exact this
end Tx
namespace L2
open PySem PySem.Spec PyProof.Rows
structure qti (P:Program) (w:World) (K:PySem.W.Frag) (mg:Str→Option Value) (base:Heap) (C:Addr) (m:Str) (k:Nat) (ps:List Str) (sp:Sp) (f:Addr) (fd:FuncData):Prop where
 ok:qa1 P w K mg base (CX1 P w) k f fd ps sp
 me:qqm K C m f
 bd:qdP K fd ps []
structure qtj (P:Program) (w:World) (K:PySem.W.Frag) (mg:Str→Option Value) (base:Heap) (C:Addr) (k:Nat) (ps:List Str) (sp:Sp) (f:Addr) (fd:FuncData):Prop where
 ok:qa1 P w K mg base (CX1 P w) k f fd ps sp
 mc:Mk K C f
 bd:qdP K fd ps []
section
variable {X:Cx} {k j:Nat} {f C:Addr} {fd:FuncData} {ps:List Str} {sp:Sp} {E:XK} {x m:Str} {p pos apos:Pos} {e o:Expr} {es:List Expr} {ta:TE} {t:TA}
end
def qrS (K:PySem.W.Frag) (a b:Addr):It :=
 ⟨fun i H=>∃xs ys x y,SqT K H a xs∧SqL K H b ys∧xs[i]?=some x∧ys[i]?=some y,fun i H v H'=>∃t,v = .ref t∧H t=none∧∀xs ys x y,SqT K H a xs→SqL K H b ys→xs[i]?=some x→ys[i]?=some y→H'=upd H t (.tup [x,y]),
   fun i H=>∃xs,SqT K H a xs∧xs.length≤i⟩
theorem ql9 {P:Program} {w:World} {K:PySem.W.Frag} {elts:List Expr} {x1:Nat} {pos:Pos} (a b z TI TO i1 i2:Addr) (D:ZipApart z TI TO i1 i2 a b):qpu P w K (.Tuple elts x1 pos) (qrS K a b) [z,TI,TO,i1,i2] z
   (fun i h=>IsZip h z TI TO .none∧IsPair h TI (.ref i1) (.ref i2)∧(∃c d,IsPair h TO c d)∧IsTupIter h i1 a i∧h.IsListIter i2 b i) where
 mem:=by simp
 obj:=fun i h st c hc=>by
   obtain ⟨hz,h1,⟨c1,d1,h2⟩,⟨o1,e1,_,q1⟩,⟨o2,e2,_,q2⟩⟩:=st
   simp only [List.mem_cons,List.not_mem_nil,or_false] at hc
   rcases hc with rfl | rfl | rfl | rfl | rfl
   · exact ⟨_,hz,fun v y=>by have y':Data.fields _=Data.cell v:=y;cases y'⟩
   · exact ⟨_,h1,fun v y=>by have y':Data.seq _ _=Data.cell v:=y;cases y'⟩
   · exact ⟨_,h2,fun v y=>by have y':Data.seq _ _=Data.cell v:=y;cases y'⟩
   · exact ⟨o1,e1,fun v y=>by rw [q1] at y;cases y⟩
   · exact ⟨o2,e2,fun v y=>by rw [q2] at y;cases y⟩
 keep:=fun i h h' st k=>by
   obtain ⟨hz,h1,⟨c1,d1,h2⟩,⟨o1,e1,q1⟩,h4⟩:=st
   exact ⟨k z (by simp) _ hz,k TI (by simp) _ h1,⟨c1,d1,k TO (by simp) _ h2⟩,⟨o1,k i1 (by simp) _ e1,q1⟩,h4.at fun o q=>k i2 (by simp) o q⟩
 item:=by
   intro X hP hw hK hc i pins s σ H E I hf st hg
   subst hP hw hK
   obtain ⟨xs,ys,x,y,hqa,hqb,hx,hy⟩:=hg
   obtain ⟨itsa,rva,pa,hza⟩:=I.tuple hqa
   obtain ⟨itsb,rvb,pb,hzb⟩:=I.list hqb
   obtain ⟨u,hu,ru⟩:=rva.get hx
   obtain ⟨v,hv,rv⟩:=rvb.get hy
   obtain ⟨hz,h1,⟨c1,d1,h2⟩,h3,h4⟩:=st
   have fr:=I.hok.fresh (Nat.le_refl s.heap.objs.size)
   have lt:∀c∈[z,TI,TO,i1,i2],c<s.heap.objs.size:=fun c hc=>by
     simp only [List.mem_cons,List.not_mem_nil,or_false] at hc
     rcases hc with rfl | rfl | rfl | rfl | rfl
     · exact Heap.lt_size hz
     · exact Heap.lt_size h1
     · exact Heap.lt_size h2
     · obtain ⟨_,q,_⟩:=h3;exact Heap.lt_size q
     · obtain ⟨_,q,_⟩:=h4;exact Heap.lt_size q
   refine qqa D (Drw.tup D.l1i1) (Drw.list D.l2i2) hz h1 h2 ⟨h3,pa⟩ ⟨h4,pb.isList⟩ (x:=u) (y:=v) (by simpa using hu) (by simpa using hv) fun h' a1 a2 a3 a4 a5 hk=>⟨_,rfl,?_⟩
   refine wpAny_letOwnedTupleGo_zip (s:={ s with heap:=h' }) a1 fun g2 hz2 hs2=>?_
   have I1:Inv X pins σ (upd H s.heap.objs.size (.tup [x,y])) { s with heap:=s.heap.push { cls := .type "tuple",data := .seq #[u,v] },toks:=s.toks } :=
     I.laid (t':=s.toks) (fun b u e=>Heap.get?_push_of_some _ e) (Nat.le_refl _) ⟨by simp;decide,[u,v],.cons ru (.cons rv .nil),⟨_,Heap.get?_push_size _ rfl,rfl,_,rfl⟩⟩
   have up:∀c∈[z,TI,TO,i1,i2],upd H s.heap.objs.size (.tup [x,y]) c=none:=fun c hc=>by
     rw [qax (Nat.ne_of_lt (lt c hc))]
     exact (hf c hc).1
   have I2:Inv X pins σ (upd H s.heap.objs.size (.tup [x,y])) { s with heap:=g2,toks:=s.toks }
     := Inv.turnedL (s:={ s with heap:=s.heap.push { cls := .type "tuple",data := .seq #[u,v] },toks:=s.toks }) (h':=g2) (t':=s.toks) (ch:=[z,TI,TO,i1,i2]) I1 (fun b o hb q=>by
     simp only [List.mem_cons,List.not_mem_nil,or_false,not_or] at hb
     rw [hs2.2 b hb.1]
     by_cases c:b=s.heap.objs.size
     · subst c
       have q0:(s.heap.push { cls := .type "tuple",data := .seq #[u,v] }).get? s.heap.objs.size=some { cls := .type "tuple",data := .seq #[u,v] }:=Heap.get?_push_size _ rfl
       have q1:(s.heap.push { cls := .type "tuple",data := .seq #[u,v] }).get? s.heap.objs.size=some o:=q
       rw [q0] at q1
       cases q1
       exact a5
     · have q1:(s.heap.push { cls := .type "tuple",data := .seq #[u,v] }).get? b=some o:=q
       rw [Heap.get?_push_ne _ _ _ c] at q1
       exact hk b o hb.1 hb.2.2.1 hb.2.2.2.1 hb.2.2.2.2 q1) (fun c hc=>⟨up c hc,(hf c hc).2⟩)
   refine ⟨.ref s.heap.objs.size,_,I2,rfl,⟨_,rfl,fr,fun xs' ys' x' y' hxa hyb hx' hy'=>?_⟩,⟨hz2,?_,⟨_,_,(hs2.2 TO D.TOz).trans a2⟩,?_,a4.1.at fun o q=>(hs2.2 i2 D.i2z).trans q⟩,up⟩
   · rw [I.tuple_inj hxa hqa,hx] at hx'
     rw [I.list_inj hyb hqb,hy] at hy'
     cases hx'
     cases hy'
     rfl
   · exact (hs2.2 TI D.TIz).trans (hk TI _ D.TIz D.TITO D.TIi1 D.TIi2 h1)
   · obtain ⟨o,e,r⟩:=a3.1
     exact ⟨o,(hs2.2 i1 D.i1z).trans e,r⟩
 done:=by
   intro X hP hw hK hc i pins s σ H E I hf st hg
   subst hP hw hK
   obtain ⟨xs,hqa,hx⟩:=hg
   obtain ⟨itsa,rva,pa,hza⟩:=I.tuple hqa
   obtain ⟨hz,h1,⟨c1,d1,h2⟩,h3,h4⟩:=st
   have la:=rva.length
   refine qoS (I.ok.hd hc) D (Drw.tup D.l1i1) hz h1 h2 ⟨h3,pa⟩ (by simp;omega) fun h' hk=>⟨rfl,I.turnedL (t':=s.toks) (ch:=[z,TI,TO,i1,i2]) (fun b o hb e=>?_) hf⟩
   simp only [List.mem_cons,List.not_mem_nil,or_false,not_or] at hb
   exact hk b o hb.1 hb.2.2.1 hb.2.2.2.1 hb.2.2.2.2 e
 self:=fun _ _ _ _ _ st h=>wpAny_pyIter_zip st.1 h
abbrev qrP (h:Heap) (l1:Addr):Heap:=h.push { cls := .type "tuple_iterator",data := .fields #[.ref l1,.int 0 0] }
abbrev qrR (h:Heap) (l1 l2:Addr):Heap:=(qrP h l1).push { cls := .type "list_iterator",data := .fields #[.ref l2,.int 0 0] }
abbrev qrO (h:Heap) (l1 l2:Addr):Heap:=(qrR h l1 l2).push { cls := .type "tuple",data := .seq #[.ref h.objs.size,.ref (qrP h l1).objs.size] }
abbrev qrW (h:Heap) (l1 l2:Addr):Heap:=(qrO h l1 l2).push { cls := .type "tuple",data := .seq #[.none,.none] }
abbrev qqe (h:Heap) (l1 l2:Addr):Heap:=(qrW h l1 l2).push { cls := .type "zip",data := .fields #[.none,.bool false,.bool false,.ref (qrR h l1 l2).objs.size,.ref (qrO h l1 l2).objs.size] }
theorem qke (l1 l2:Addr) (xs ys:Array Value):Meets (Builtin.«zip.__new__» ⟨[.type "zip",.ref l1,.ref l2],[]⟩) (fun _ R s=>IsTup s.heap l1 xs∧s.heap.IsList l2 ys∧R (.ok (.ret (.ref (qrW s.heap l1 l2).objs.size))) { s with heap:=qqe s.heap l1 l2 }) :=
 .of_wp fun prog w A R s h=>by
   obtain ⟨hp,g,d,tk,os⟩:=s;obtain ⟨q1,q2,h⟩:=h;have hsub:=sub_zip
   have hL1:IsTup (Shared.heap ⟨hp,g,d,tk,os⟩) l1 xs:=q1
   have hL2:Heap.IsList (Shared.heap ⟨hp.push { cls := .type "tuple_iterator",data := .fields #[.ref l1,.int 0 0] },g,d,tk,os⟩) l2 ys:=Heap.IsList.push q2 _
   wp_walk using iter_tuple hL1,wpAny_pyIter_list hL2
   exact ⟨_,rfl,h⟩
theorem qkL {prog:Program} {w:World} {A:Around} {E:Value→Shared→Prop} {s:Shared} {l1 l2:Addr} {xs ys:Array Value} {Q:Value→Shared→Prop} (q1:IsTup s.heap l1 xs) (q2:s.heap.IsList l2 ys)
   (h:∀g,IsZip g (s.heap.objs.size+4) (s.heap.objs.size+2) (s.heap.objs.size+3) .none→IsPair g (s.heap.objs.size+2) (.ref s.heap.objs.size) (.ref (s.heap.objs.size+1))→IsPair g (s.heap.objs.size+3) .none .none→IsTupIter g s.heap.objs.size l1 0→g.IsListIter (s.heap.objs.size+1) l2 0 →
     (∀c o,s.heap.get? c=some o→g.get? c=some o)→Q (.ref (s.heap.objs.size+4)) { s with heap:=g }) :
   wpAny (model prog w) A (call (.type "zip") [.ref l1,.ref l2]) Q E s:=by
 refine callType_new F.called_zip (by decide) (F.typeCall_zip_2 _ _) (F.newCall_zip_2 _ _) (fun obj=>F.args_object_init_3 obj _ _) F.entry_zip_new (qke l1 l2 xs ys) ⟨q1,q2,?_⟩
 have z1:(qrP s.heap l1).objs.size=s.heap.objs.size+1:=Heap.size_push ..
 have z2:(qrR s.heap l1 l2).objs.size=s.heap.objs.size+2:=by rw [Heap.size_push,z1]
 have z3:(qrO s.heap l1 l2).objs.size=s.heap.objs.size+3:=by rw [Heap.size_push,z2]
 have z4:(qrW s.heap l1 l2).objs.size=s.heap.objs.size+4:=by rw [Heap.size_push,z3]
 have k5:(qqe s.heap l1 l2).get? (qrW s.heap l1 l2).objs.size=some _:=Heap.get?_push_size _ rfl
 have k4:(qqe s.heap l1 l2).get? (qrO s.heap l1 l2).objs.size=some _:=Heap.get?_push_of_some _ (Heap.get?_push_size _ rfl)
 have k3:(qqe s.heap l1 l2).get? (qrR s.heap l1 l2).objs.size=some _:=Heap.get?_push_of_some _ (Heap.get?_push_of_some _ (Heap.get?_push_size _ rfl))
 have k2:(qqe s.heap l1 l2).get? (qrP s.heap l1).objs.size=some _:=Heap.get?_push_of_some _ (Heap.get?_push_of_some _ (Heap.get?_push_of_some _ (Heap.get?_push_size _ rfl)))
 have k1:(qqe s.heap l1 l2).get? s.heap.objs.size=some _:=Heap.get?_push_of_some _ (Heap.get?_push_of_some _ (Heap.get?_push_of_some _ (Heap.get?_push_of_some _ (Heap.get?_push_size _ rfl))))
 show _∧_
 rw [z2,z3,z4] at k5;rw [z1,z2] at k3;rw [z3] at k4;rw [z1] at k2;rw [z4]
 exact ⟨⟨_,k5,rfl⟩,h _ k5 k3 k4 ⟨_,k1,rfl,rfl⟩ ⟨_,k2,rfl,rfl⟩ fun c o x=>Heap.get?_push_of_some _ (Heap.get?_push_of_some _ (Heap.get?_push_of_some _ (Heap.get?_push_of_some _ (Heap.get?_push_of_some _ x))))⟩
section
variable {X:Cx} {K:PySem.W.Frag}
def qqs (K:PySem.W.Frag) (ta:TA):TI:=fun σ H R=>ta σ H fun vs H1=>∃a b xs ys,vs=[.ref a,.ref b]∧SqT K H1 a xs∧SqL K H1 b ys∧R (qrS K a b) H1
theorem qoH {a b:Expr} {elts:List Expr} {x1:Nat} {tp:Pos} {ta:TA} {p pos:Pos} (hK:X.K=K) (hg:Gl X "zip") (hm:X.mg "zip" = none) (ha:PA X [a,b] ta) (hs:starEach [a,b] X.env=(false,eval a X.env)::starEach [b] X.env:=by rfl) (hs2:(backTo pos (starEach [b] X.env)).any (·.1)=false:=by rfl):PI X (.Tuple elts x1 tp) (.Call (.Name "zip" p) [a,b] [] pos) (qqs K ta):=by
 subst hK
 intro pins s σ H R I h
 refine Call_ (qhB I hg hm PyProof.Rows.boot_zip (PyProof.Rows.callWith_type1 (thn (ha pos pins s σ H _ I h) fun us s1 ⟨vs,H1,I1,r1,q1⟩=>?_) hs hs2))
 obtain ⟨l1,l2,xs,ys,rfl,hqa,hqb,q⟩:=q1
 obtain ⟨u,v,rfl,ru,rv⟩:=qoK r1
 cases ru
 cases rv
 obtain ⟨itsa,rva,pa,hza⟩:=I1.tuple hqa
 obtain ⟨itsb,rvb,pb,hzb⟩:=I1.list hqb
 have la:l1<s1.heap.objs.size:=by obtain ⟨_,q,_⟩:=pa;exact Heap.lt_size q
 have lb:l2<s1.heap.objs.size:=by obtain ⟨_,q,_⟩:=pb.isList;exact Heap.lt_size q
 generalize en:s1.heap.objs.size=n at la lb
 refine qkL pa pb.isList fun h' g1 g2 g3 g4 g5 hk=>?_
 rw [en] at g1 g2 g3 g4 g5 ⊢
 have I2:Inv X pins σ H1 { s1 with heap:=h' }:=I1.kept (t':=s1.toks) hk
 refine wpAny_pyIter_zip g1 ⟨n+4,[n+4,n+2,n+3,n,n+1],_,_,H1,rfl,I2,ql9 l1 l2 (n+4) (n+2) (n+3) n (n+1) ?_,⟨g1,g2,⟨_,_,g3⟩,g4,g5⟩,fun c hb=>?_,q⟩
 · have la':@LT.lt Nat _ l1 n:=la
   have lb':@LT.lt Nat _ l2 n:=lb
   constructor<;>(intro z;exact absurd (show @Eq Nat _ _ from z) (by omega))
 · have:n≤c:=by
     simp only [List.mem_cons,List.not_mem_nil,or_false] at hb
     rcases hb with rfl | rfl | rfl | rfl | rfl<;>omega
   exact I1.fpOk (by omega) (I1.hok.fresh (by omega))
end
section
variable {K:PySem.W.Frag} {g:TG} {tt:TT} {te:TE} {nt:Nat} {caps:List Nat} {σ:L2.St} {H:Hp} {a b:Addr} {ta:TA} {Q:VK}
theorem qmG:qh1 nt caps (qqs K ta) g tt te σ H Q↔ta σ H fun vs H1=>∃a b xs ys,vs=[.ref a,.ref b]∧SqT K H1 a xs∧SqL K H1 b ys∧qdL (qrS K a b) nt caps g tt te σ H1 Q:=Iff.rfl
theorem qqK {xs ys:List V} (hle:xs.length=ys.length) (Pv:Nat→List V→Hp→Prop) (h0:Pv 0 [] H) (hz:xs.length≤sizeLine) (hl:∀i zs H1,i≤xs.length→Pv i zs H1→SqT K H1 a xs∧SqL K H1 b ys∧zs.length≤i)
   (hs:∀i x y zs H1 t,xs[i]?=some x→ys[i]?=some y→Pv i zs H1→H1 t=none→∀(R:VK) (R':Hp→Prop),(∀v H2,Pv (i+1) (zs++[v]) H2→R v H2)→(∀H2,Pv (i+1) zs H2→R' H2) →
     g (.ref t) (qcf nt caps σ) (upd H1 t (.tup [x,y])) fun σ4 H4=>tt σ4 H4 fun b H5=>if b=true then te σ4 H5 R else R' H5)
   (hd:∀zs H1,Pv xs.length zs H1→∀p,H1 p=none→Q (.ref p) (upd H1 p (.lst zs))):qdL (qrS K a b) nt caps g tt te σ H Q:=by
 refine ⟨fun i m zs H1=>m=xs.length-i∧i≤xs.length∧Pv i zs H1,⟨_,rfl,Nat.zero_le _,h0⟩,?_⟩
 rintro i m zs H2 ⟨rfl,hi,p⟩
 obtain ⟨hqa,hqb,hlen⟩:=hl i zs H2 hi p
 by_cases hlt:i<xs.length
 · have hx:xs[i]?=some xs[i]:=List.getElem?_eq_getElem hlt
   have hy:ys[i]?=some (ys[i]'(by omega)):=List.getElem?_eq_getElem _
   refine .inr ⟨⟨xs,ys,_,_,hqa,hqb,hx,hy⟩,by omega,fun x H3 y=>?_⟩
   obtain ⟨t,rfl,ht,y⟩:=y
   rw [y _ _ _ _ hqa hqb hx hy]
   exact hs i _ _ zs H2 t hx hy p ht _ _ (fun v H4 q=>⟨xs.length-(i+1),by omega,rfl,hlt,q⟩) fun H4 q=>⟨xs.length-(i+1),by omega,rfl,hlt,q⟩
 · obtain rfl:i=xs.length:=by omega
   exact .inl ⟨⟨xs,hqa,Nat.le_refl _⟩,by omega,fun p' hp'=>hd zs H2 p p' hp'⟩
end
end L2
namespace L2
open PySem PySem.Spec PyProof.Rows
def qih:Sp:=fun _ _ _ _=>False
structure qfq (P:Program) (w:World) (K:PySem.W.Frag) (mg:Str→Option Value) (base:Heap) (C:Addr) (m:Str) (k:Nat) (ps:List Str) (sp:Sp) (f:Addr) (fd:FuncData):Prop where
 ok:qa1 P w K mg base CX0 k f fd ps sp
 me:qqm K C m f
 bd:qdP K fd ps []
structure qpV (P:Program) (w:World) (K:PySem.W.Frag) (mg:Str→Option Value) (base:Heap) (C:Addr) (k:Nat) (ps:List Str) (sp:Sp) (f:Addr) (fd:FuncData):Prop where
 ok:qa1 P w K mg base CX0 k f fd ps sp
 mc:Mk K C f
 bd:qdP K fd ps []
section
variable {X:Cx} {k j:Nat} {f C:Addr} {fd:FuncData} {ps:List Str} {sp:Sp} {x m:Str} {p pos apos:Pos} {e o:Expr} {es:List Expr} {ta:TE} {t:TA}
theorem qbq {pl:Sem Bool} (he:PE X o ta) (c:Cls X.K C) (M:qfq X.prog X.w X.K X.mg X.base C m k ps sp f fd) (hr:qdK j X.A) (hj:k≤j) (ha:PA X (e::es) t)
 (hst:starEach (e::es) X.env=(false,eval e X.env)::starEach es X.env:=by rfl) (hpl:(backTo pos (starEach es X.env)).any (·.1)=false:=by rfl)
 (ht:eval (.Call (.Attribute o m apos) (e::es) [] pos) X.env=(do
   let ov ←eval o X.env
   standAt apos.atName
   let (f,first) ←holding [ov] (getMethod ov m pl)
   callWith pos f first (backTo pos (starEach (e::es) X.env)) (backToKw pos (keywordEach [] X.env))):=by rfl) :
 PE X (.Call (.Attribute o m apos) (e::es) [] pos) (qpg C m sp [] E0 ta t):=qp5 he c M.me M.ok (hr.mono hj) M.bd .nil qpj ha hst hpl ht
theorem qmV (M:qpV X.prog X.w X.K X.mg X.base C k ps sp f fd) (hr:qdK j X.A) (hj:k+1≤j) (hg:Gl X x) (hm:X.mg x=some (.ref C)) (ha:PA X (e::es) t) (hdb:(x==("__debug__" : Str))=false:=by decide)
 (he:starEach (e::es) X.env=(false,eval e X.env)::starEach es X.env:=by rfl) (hpl:(backTo pos (starEach es X.env)).any (·.1)=false:=by rfl) :
 PE X (.Call (.Name x p) (e::es) [] pos) (qoO C sp [] E0 t):=qpT M.mc M.ok (hr.mono hj) hg hm M.bd .nil qpj ha hdb he hpl
end
def qiq:List (Str×List Str):=[("let",["new", "text"]),("hits",["new", "family"]),("rests",["new", "family"]),("either",["new", "family", "family"]),("both",["new", "family", "family"]),("in",["new", "family", "name"]),("out",["new", "family", "name"]),("show",["family"]),("says",["family", "set"]),("look",["family", "set"]),("held",["family", "family"]),("compare",["family", "name", "name"]),("turns",["family"]),("ranks",["family"]),("weights",["family"])]
def wanted (z:Str):Option (List Str):=qiq.lookup z
structure Wnt (P:Program) (w:World) (K:PySem.W.Frag) (aW:Addr):Prop where
 kv:∃kvs,KDt P w K aW kvs∧∀z ks,wanted z=some ks→∃t,qc5 kvs (Sum.inr z)=some (.ref t)∧∀H,SqT K H t (sV ks)
structure Prt (z:Str) (d:Str) (r ks:List Str):Prop where
 hd:(Txt.split z " ")[0]?=some d
 kd:wanted d=some ks
 ps:(if d = "let" then Txt.splitMax z " " 2 else Txt.split z " ")=d::r
 ln:r.length=ks.length
 sz:z.length≤9000
inductive Th where
 | nm (z:Str) | fm (fs:List Nat) | nu (a:Nat)
def ThV (H:Hp):Th→V→Prop
 | .nm z,v=>v = .str z
 | .fm fs,v=>∃p,v = .ref p∧H p=some (.lst (nV fs))
 | .nu a,v=>v = .int (a:Nat)
theorem ThV.same {H H':Hp} (s:Same H H'):∀{th:Th} {v:V},ThV H th v→ThV H' th v
 | .nm _,_,h=>h
 | .fm _,_,⟨p,e,h⟩=>⟨p,e,s _ _ h⟩
 | .nu _,_,h=>h
structure Fml (n:Nat) (fs:List Nat):Prop where
 rise:fs.Pairwise (· < ·)
 lt:∀b∈fs,b<2^n
 few:fs.length≤70
inductive Thg (ws:List Str) (m:List (Str×List Nat)):Str→Str→Th→Prop
 | new {w:Str}:Tx.Wd w→Thg ws m "new" w (.nm w)
 | fam {w:Str} {fs:List Nat}:m.lookup w=some fs→Thg ws m "family" w (.fm fs)
 | name {w:Str}:w∈ws→Thg ws m "name" w (.nu (ws.idxOf w))
 | set {a:Nat}:a<2^ws.length→Thg ws m "set" (Tx.sT ws a) (.nu a)
 | text {fs:List Nat}:Fml ws.length fs→Thg ws m "text" (Tx.fT ws fs) (.fm fs)
def qn1 (pw pk:Addr):List (Str×V):=[("words",.ref pw),("kept",.ref pk)]
theorem kne:¬(("words" : Str) = "kept"):=by decide +kernel
theorem qhH (pw pk:Addr):(qn1 pw pk).lookup ("words" : Str)=some (.ref pw):=by
 unfold qn1
 rw [List.lookup_cons]
 simp
theorem qhC (pw pk:Addr):(qn1 pw pk).lookup ("kept" : Str)=some (.ref pk):=by
 unfold qn1
 rw [List.lookup_cons,show (("kept" : Str) == "words")=false from beq_eq_false_iff_ne.mpr fun e=>kne e.symm]
 simp
theorem qbT (pw pk:Addr) {m:Str} (h1:(m==("words" : Str))=false) (h2:(m==("kept" : Str))=false):(qn1 pw pk).lookup m=none:=by
 unfold qn1
 simp only [List.lookup,h1,h2]
theorem qnq (pw pk:Addr):qg3 "kept" (.ref pk) (qg3 "words" (.ref pw) [])=qn1 pw pk:=by
 show (if ("words" : Str) = "kept" then _ else _)=_
 rw [if_neg kne]
 rfl
def Kps (H:Hp) (kvs:List (Key×V)) (m:List (Str×List Nat)):Prop :=
 kvs.length=m.length∧∀n:Str,match m.lookup n with
   | some fs=>∃p,qc5 kvs (Sum.inr n)=some (.ref p)∧H p=some (.lst (nV fs))
   | none=>qc5 kvs (Sum.inr n)=none
theorem Kps.same {H H':Hp} {kvs:List (Key×V)} {m:List (Str×List Nat)} (k:Kps H kvs m) (s:∀p fs,H p=some (.lst (nV fs))→H' p=some (.lst (nV fs))):Kps H' kvs m:=by
 refine ⟨k.1,fun n=>?_⟩
 have h:=k.2 n
 cases e:m.lookup n with
 | none=>rw [e] at h;exact h
 | some fs =>
   rw [e] at h
   obtain ⟨p,h1,h2⟩:=h
   exact ⟨p,h1,s p fs h2⟩
theorem Kps.get {H:Hp} {kvs:List (Key×V)} {m:List (Str×List Nat)} (k:Kps H kvs m) {n:Str} {fs:List Nat} (e:m.lookup n=some fs):∃p,qc5 kvs (Sum.inr n)=some (.ref p)∧H p=some (.lst (nV fs)):=by
 have h:=k.2 n
 rw [e] at h
 exact h
theorem Kps.no {H:Hp} {kvs:List (Key×V)} {m:List (Str×List Nat)} (k:Kps H kvs m) {n:Str} (e:m.lookup n=none):qc5 kvs (Sum.inr n)=none:=by
 have h:=k.2 n
 rw [e] at h
 exact h
def qaI:List (Str×List Nat)→Str→List Nat→List (Str×List Nat)
 | [],n,fs=>[(n,fs)]
 | (x,gs)::r,n,fs=>if x=n then (x,fs)::r else (x,gs)::qaI r n fs
theorem qae (n x:Str) (fs:List Nat):∀m:List (Str×List Nat),(qaI m n fs).lookup x=if x=n then some fs else m.lookup x
 | []=>by
   show List.lookup x [(n,fs)]=_
   by_cases h:x=n
   · simp [h]
   · simp [List.lookup,h,beq_eq_false_iff_ne.mpr h]
 | (y,gs)::r=>by
   have ih:=qae n x fs r
   show List.lookup x (if y=n then (y,fs)::r else (y,gs)::qaI r n fs)=_
   by_cases h:y=n
   · rw [if_pos h]
     by_cases g:x=n
     · subst h;subst g;simp
     · have:(x==y)=false:=beq_eq_false_iff_ne.mpr fun e=>g (e.trans h)
       simp only [List.lookup,this,if_neg g]
   · rw [if_neg h]
     by_cases g:x=y
     · subst g;simp [if_neg h]
     · have:(x==y)=false:=beq_eq_false_iff_ne.mpr g
       simp only [List.lookup,this]
       exact ih
theorem qcr (n:Str) (fs:List Nat):∀m:List (Str×List Nat),(qaI m n fs).length=m.length+if (m.lookup n).isSome then 0 else 1
 | []=>rfl
 | (y,gs)::r=>by
   have ih:=qcr n fs r
   show (if y=n then (y,fs)::r else (y,gs)::qaI r n fs).length=_
   by_cases h:y=n
   · rw [if_pos h]
     subst h
     simp
   · rw [if_neg h,List.length_cons,ih,List.length_cons]
     have:(n==y)=false:=beq_eq_false_iff_ne.mpr fun e=>h e.symm
     simp only [List.lookup,this]
     omega
theorem qjX (kvs:List (Key×V)) (k:Key) (v:V):(qid kvs k v).length=kvs.length+if (qc5 kvs k).isSome then 0 else 1:=by
 unfold qid
 rw [qdy]
 cases (qc5 kvs k).isSome<;>simp
theorem Kps.put {H:Hp} {kvs:List (Key×V)} {m:List (Str×List Nat)} (k:Kps H kvs m) {n:Str} {fs:List Nat} {p:Addr} (h:H p=some (.lst (nV fs))):Kps H (qid kvs (Sum.inr n) (.ref p)) (qaI m n fs):=by
 refine ⟨?_,fun x=>?_⟩
 · rw [qjX,qcr,k.1]
   have e:=k.2 n
   cases c:m.lookup n with
   | none=>rw [c] at e;rw [e];rfl
   | some gs =>
     rw [c] at e
     obtain ⟨q,e1,_⟩:=e
     rw [e1]
     rfl
 · rw [qae,qm5]
   by_cases g:x=n
   · rw [if_pos g,if_pos (by rw [g])]
     exact ⟨p,rfl,h⟩
   · rw [if_neg g,if_neg (fun e=>g (Sum.inr.inj e))]
     exact k.2 x
structure qcA (C:Addr) (H:Hp) (d pk:Addr) (ws:List Str) (m:List (Str×List Nat)):Prop where
 ob:∃dx pw,H d=some (.ins C dx (qn1 pw pk))∧H pw=some (.lst (sV ws))
 dc:∃kvs,H pk=some (.dK kvs)∧Kps H kvs m
 wd:Tx.Wds ws
 fm:∀n fs,m.lookup n=some fs→Fml ws.length fs
 ms:m.length≤20
theorem qcA.same {C:Addr} {H H':Hp} {d pk:Addr} {ws:List Str} {m:List (Str×List Nat)} (D:qcA C H d pk ws m) (s:Same H H'):qcA C H' d pk ws m:=by
 obtain ⟨dx,pw,h1,h2⟩:=D.ob
 obtain ⟨kvs,h3,h4⟩:=D.dc
 exact ⟨⟨dx,pw,s _ _ h1,s _ _ h2⟩,⟨kvs,s _ _ h3,h4.same fun p fs h=>s _ _ h⟩,D.wd,D.fm,D.ms⟩
def SmB (pk:Addr) (H H':Hp):Prop:=∀b o,H b=some o→b≠pk→H' b=some o
section
variable {K:PySem.W.Frag} {D:qf0} {σ:L2.St} {H:Hp} {u:TS} {ta tv td ty:TE} {f:Str}
theorem qm8:ql2 (qsf K ta tv f) u D σ H↔tv σ H fun y H1=>ta σ H1 fun x H2=>∃a C dx fs,x = .ref a∧H2 a=some (.ins C dx fs)∧Cls K C∧qds K C f∧fs.length<1000∧u D σ (upd H2 a (.ins C dx (qg3 f y fs))):=Iff.rfl
theorem qk3:ql2 (qpz td ty tv) u D σ H↔tv σ H fun v H1=>td σ H1 fun x H2=>ty σ H2 fun y H3=>∃a H4,x = .ref a∧qqd H3 a y v H4∧u D σ H4:=Iff.rfl
end
def qhD (H:Hp) (ths:List Th) (vs:List V):Prop:=ths.length=vs.length∧∀(i:Nat) (th:Th) (v:V),ths[i]?=some th→vs[i]?=some v→ThV H th v
theorem qhD.same {H H':Hp} {ths:List Th} {vs:List V} (h:qhD H ths vs) (s:Same H H'):qhD H' ths vs:=⟨h.1,fun i th v h1 h2=>(h.2 i th v h1 h2).same s⟩
theorem qhD.nil {H:Hp}:qhD H [] []:=⟨rfl,fun i th v h1 h2=>by cases h1⟩
theorem qhD.snoc {H:Hp} {ths:List Th} {vs:List V} {th:Th} {v:V} (h:qhD H ths vs) (h2:ThV H th v):qhD H (ths++[th]) (vs++[v]):=by
 refine ⟨by rw [List.length_append,List.length_append,h.1];rfl,fun i t u h3 h4=>?_⟩
 by_cases c:i<ths.length
 · rw [List.getElem?_append_left c] at h3
   rw [List.getElem?_append_left (by rw [←h.1];exact c)] at h4
   exact h.2 i t u h3 h4
 · rw [List.getElem?_append_right (by omega)] at h3
   rw [List.getElem?_append_right (by rw [←h.1];omega),←h.1] at h4
   cases e:i-ths.length with
   | zero =>
     rw [e] at h3 h4
     cases h3
     cases h4
     exact h2
   | succ j=>rw [e] at h3;cases h3
theorem qhD.cons {H:Hp} {ths:List Th} {vs:List V} {th:Th} (h:qhD H (th::ths) vs):∃v us,vs=v::us∧ThV H th v∧qhD H ths us:=by
 cases vs with
 | nil=>exact absurd h.1 (by simp)
 | cons v us=>exact ⟨v,us,rfl,h.2 0 th v rfl rfl,by have:=h.1;simpa using this,fun i t u h1 h2=>h.2 (i+1) t u (by simpa using h1) (by simpa using h2)⟩
theorem qhD.empty {H:Hp} {vs:List V} (h:qhD H [] vs):vs=[]:=List.length_eq_zero_iff.mp h.1.symm
def qhr (ws:List Str) (m:List (Str×List Nat)) (ks r:List Str) (ths:List Th):Prop:=ths.length=ks.length∧∀(i:Nat) (k w:Str) (th:Th),ks[i]?=some k→r[i]?=some w→ths[i]?=some th→Thg ws m k w th
end L2
namespace L2
open PySem PySem.Spec PyProof.Rows
def pre:List Str→Str→Str
 | [],w=>w
 | d::ds,w=>d ++ " " ++ pre ds w
theorem qjF (x y:Str):Tx.sg (x++y)=Tx.sg x++Tx.sg y:=by
 show (x.cps++y.cps).toList=_
 simp [Tx.sg]
theorem qkv (d:Str) (ds:List Str) (w:Str):Tx.sg (pre (d::ds) w)=Tx.sg d++32::Tx.sg (pre ds w):=by
 show Tx.sg (d ++ " " ++ pre ds w)=_
 rw [qjF,qjF,Tx.lit_space,List.append_assoc]
 rfl
theorem qfy:∀(ds:List Str) (w:Str),(∀d∈ds,32∉Tx.sg d)→Txt.split (pre ds w) " " = ds++Txt.split w " "
 | [],w,_=>rfl
 | d::ds,w,h=>by
   rw [Tx.lit_space,Tx.split_cons (qkv d ds w) (h d List.mem_cons_self),←Tx.lit_space,qfy ds w fun x hx=>h x (List.mem_cons_of_mem _ hx)]
   rfl
theorem qiR {d w:Str} {ds ks:List Str} (h1:wanted d=some ks) (hd:¬d = "let") (hf:∀x∈d::ds,32∉Tx.sg x) (hw:32∉Tx.sg w) (hl:ds.length+1=ks.length) (hz:(pre (d::ds) w).length≤9000):Prt (pre (d::ds) w) d (ds++[w]) ks:=by
 have e:Txt.split (pre (d::ds) w) " " = d::(ds++[w]):=by
   rw [qfy _ _ hf,Tx.lit_space,Tx.split_nofree hw]
   rfl
 exact ⟨by rw [e];rfl,h1,by rw [if_neg hd,e],by rw [List.length_append,←hl];rfl,hz⟩
theorem qpy {n w:Str} (hn:32∉Tx.sg n) (hz:(pre ["let",n] w).length≤9000):Prt (pre ["let",n] w) "let" [n,w] ["new", "text"]:=by
 have hl:32∉Tx.sg ("let" : Str):=by decide +kernel
 refine ⟨?_,by decide +kernel,?_,rfl,hz⟩
 · rw [qfy _ _ fun d hd=>?_]
   · rfl
   · rcases List.mem_cons.mp hd with rfl | hd
     · exact hl
     · rw [List.mem_singleton.mp hd]
       exact hn
 · rw [if_pos rfl,Tx.lit_space]
   refine Tx.max_two (by decide) ?_ hl hn
   rw [qkv,qkv]
   rfl
def qsG:R2:=fun x y H Q=>(∃z:Str,x = .str z∧y = .int 0∧Q (.str Str.empty) H)∨qqL x y H Q
theorem qqb {X:Cx}:OpR X (binaryOp .Mult) (fun x y H Q=>∃z:Str,x = .str z∧y = .int 0∧Q (.str Str.empty) H):=by
 intro pins s σ H x y v u Q I rx ry h
 obtain ⟨z,rfl,rfl,q⟩:=h
 obtain ⟨t,rfl⟩:=rx
 obtain ⟨t',rfl⟩:=ry
 exact P.mul_str_none (by decide) (by decide) ⟨.str _,H,I.tok _,⟨_,rfl⟩,q⟩
theorem qpY {X:Cx}:OpR X (binaryOp .Mult) qsG:=qqb.or qpR
def qgF (MkR:Nat→Str→List Th→List Nat→Prop) (ws:List Str) (m:List (Str×List Nat)) (z:Str) (m':List (Str×List Nat)):Prop :=
 ∃(deed:Str) (r ks:List Str) (n:Str) (qeE:List Th) (gs:List Nat),Prt z deed r ks∧qhr ws m ks r (.nm n::qeE)∧ks[0]?=some ("new" : Str)∧MkR ws.length deed qeE gs∧Fml ws.length gs∧(m.lookup n≠none∨m.length<20)∧m'=qaI m n gs
def qdT (MkR:Nat→Str→List Th→List Nat→Prop) (ws:List Str):List Str→List (Str×List Nat)→List (Str×List Nat)→Prop
 | [],m,m'=>m'=m
 | z::zs,m,m'=>∃m1,qgF MkR ws m z m1∧qdT MkR ws zs m1 m'
theorem qdi {ws:List Str} {m:List (Str×List Nat)} {k w:Str} {th:Th} (h:Thg ws m k w th):qhr ws m [k] [w] [th]:=by
 refine ⟨rfl,fun i k' w' th' h1 h2 h3=>?_⟩
 cases i with
 | zero=>cases h1;cases h2;cases h3;exact h
 | succ j=>cases h1
theorem qhr.cons {ws:List Str} {m:List (Str×List Nat)} {k w:Str} {th:Th} {ks r:List Str} {ths:List Th} (h:Thg ws m k w th) (t:qhr ws m ks r ths):qhr ws m (k::ks) (w::r) (th::ths):=by
 refine ⟨by rw [List.length_cons,List.length_cons,t.1],fun i k' w' th' h1 h2 h3=>?_⟩
 cases i with
 | zero=>cases h1;cases h2;cases h3;exact h
 | succ j=>exact t.2 j k' w' th' (by simpa using h1) (by simpa using h2) (by simpa using h3)
end L2
namespace L2
open PySem PySem.Spec PyProof.Rows
theorem qfi {α:Type} [DecidableEq α] {p p':α→Bool} {n:α}:∀{L:List α},L.Nodup→n∈L→p n=true→p' n=false→(∀x,x≠n→p' x=p x)→(L.filter p').length+1=(L.filter p).length
 | [],_,h,_,_,_=>by cases h
 | x::L,nd,h,h1,h2,h3=>by
   have ndx:=List.nodup_cons.mp nd
   by_cases e:x=n
   · subst e
     have:L.filter p'=L.filter p:=List.filter_congr fun y hy=>h3 y fun e=>ndx.1 (e▸hy)
     rw [List.filter_cons_of_neg (by rw [h2];decide),List.filter_cons_of_pos h1,this,List.length_cons]
   · have hn:n∈L:=by
       rcases List.mem_cons.mp h with h | h
       · exact absurd h.symm e
       · exact h
     have ih:=qfi ndx.2 hn h1 h2 h3
     rw [List.filter_cons,List.filter_cons,h3 x e]
     split
     · rw [List.length_cons,List.length_cons,ih]
     · exact ih
def Bud (N:List Str) (m:List (Str×List Nat)):Prop:=m.length+(N.filter fun n=>(m.lookup n).isNone).length=N.length
theorem Bud.nil (N:List Str):Bud N []:=by
 unfold Bud
 have:(N.filter fun n=>(List.lookup n ([]:List (Str×List Nat))).isNone)=N:=List.filter_eq_self.mpr fun _ _=>rfl
 rw [this]
 exact Nat.zero_add _
theorem Bud.put {N:List Str} (nd:N.Nodup) {m:List (Str×List Nat)} (b:Bud N m) {n:Str} (hn:n∈N) (fs:List Nat):Bud N (qaI m n fs):=by
 unfold Bud at b ⊢
 rw [qcr]
 cases e:m.lookup n with
 | some gs =>
   have:(N.filter fun x=>((qaI m n fs).lookup x).isNone)=N.filter fun x=>(m.lookup x).isNone:=List.filter_congr fun x _=>by
     rw [qae]
     by_cases c:x=n
     · rw [if_pos c,c,e]
       rfl
     · rw [if_neg c]
   rw [this]
   exact b
 | none =>
   have:=qfi (p:=fun x=>(m.lookup x).isNone) (p':=fun x=>((qaI m n fs).lookup x).isNone) nd hn (by rw [e];rfl) (by rw [qae,if_pos rfl];rfl) fun x hx=>by rw [qae,if_neg hx]
   simp only [Option.isSome_none] at *
   rw [if_neg (by decide)]
   omega
theorem Bud.room {N:List Str} {m:List (Str×List Nat)} (b:Bud N m) (hN:N.length<20) (n:Str):m.lookup n≠none∨m.length<20 := .inr (by unfold Bud at b;omega)
end L2
namespace L2
open PySem PySem.Spec PyProof.Rows
theorem qb9 {K:PySem.W.Frag} {t:Addr} {od:Option Addr} {its:Array Value} {n:Nat} {sl:Array (Option Value)} {ks:List Str} (l:K.lookup t=some ⟨.type "tuple",od,.seq its n,sl⟩) (hs:its.size≤100000) (v:qbc (sV ks) its.toList):∀H,SqT K H t (sV ks) :=
 fun H => .inr ⟨_,its,n,l,rfl,rfl,qaH hs,v⟩
def qrV (K:PySem.W.Frag) (w:World):List (Str×List Str)→List DictEntry→Prop
 | [],[]=>True
 | (z,ks)::r,e::es=>(∃(tk:Tok) (t:Addr),e=⟨hashStr w z,.str z tk,.ref t⟩∧∀H,SqT K H t (sV ks))∧qrV K w r es
 | _,_=>False
theorem qma {P:Program} {w:World} {K:PySem.W.Frag}:∀{S:List (Str×List Str)} {es:List DictEntry},qrV K w S es →
   ∃(kvs:List (Key×V)) (vs:List (Key×Value)),KV kvs vs∧(∀e∈es,∃k,(qa9 P w).is k e.key=true∧e.hash=(qa9 P w).hash k)∧Pairs (qa9 P w) es vs∧vs.map (·.1)=S.map (fun p=>Sum.inr p.1) ∧
     ∀z ks,S.lookup z=some ks→∃t,qc5 kvs (Sum.inr z)=some (.ref t)∧∀H,SqT K H t (sV ks)
 | [],[],_=>⟨[],[],.nil,fun e h=>(by cases h),.nil,rfl,fun z ks h=>by cases h⟩
 | [],_::_,h=>h.elim
 | _::_,[],h=>h.elim
 | (y,us)::S,e::es,h=>by
   obtain ⟨⟨tk,t,rfl,ht⟩,hr⟩:=h
   obtain ⟨kvs,vs,h1,h2,h3,h4,h5⟩:=qma (P:=P) hr
   refine ⟨(Sum.inr y,.ref t)::kvs,(Sum.inr y,.ref t)::vs,.cons ⟨rfl,rfl⟩ h1,fun e he=>?_,.cons ?_ rfl h3,by rw [List.map_cons,List.map_cons,h4],fun z ks hz=>?_⟩
   · rcases List.mem_cons.mp he with rfl | he
     · exact ⟨Sum.inr y,(by show Value.isStrOf y (.str y tk)=true;simp [Value.isStrOf]),rfl⟩
     · exact h2 e he
   · show Value.isStrOf y (.str y tk)=true
     simp [Value.isStrOf]
   · rw [List.lookup_cons] at hz
     by_cases c:z=y
     · subst c
       simp at hz
       subst hz
       exact ⟨t,by unfold qc5;simp,ht⟩
     · rw [beq_eq_false_iff_ne.mpr c] at hz
       obtain ⟨t',e1,e2⟩:=h5 z ks hz
       refine ⟨t',?_,e2⟩
       unfold qc5 at e1 ⊢
       rw [List.find?_cons_of_neg (by simp only [decide_eq_true_eq];exact fun e=>c (Sum.inr.inj e).symm)]
       exact e1
theorem qrd {P:Program} {w:World} {K:PySem.W.Frag} {aW:Addr} {es:Array DictEntry} {ep:Nat} (l:K.lookup aW=some ⟨.type "dict",none,.dict es ep,#[]⟩) (hn:(aW==sysModules)=false) (h:qrV K w qiq es.toList):Wnt P w K aW:=by
 obtain ⟨kvs,vs,h1,h2,h3,h4,h5⟩:=qma (P:=P) h
 refine ⟨kvs,⟨hn,_,vs,l,h1,fun hp hg=>⟨_,es,ep,hg,⟨rfl,rfl,rfl⟩,rfl,fun e he=>h2 e (Array.mem_toList_iff.mpr he),h3,?_⟩⟩,h5⟩
 rw [h4]
 have nd:(qiq.map (·.1)).Nodup:=by decide +kernel
 have:qiq.map (fun p=>(Sum.inr p.1:Key))=(qiq.map (·.1)).map Sum.inr:=by rw [List.map_map];rfl
 rw [this]
 exact List.Pairwise.map _ (fun a b hab e=>hab (Sum.inr.inj e)) nd
end L2
open L2 in
local macro_rules | `(tactic| walk_at "rd")=>`(tactic| simp only [qnd,qlc,qnt,qkp,qnC,qo0,ite_true,ite_false,qky,qsq,qsx,qoR,qra,qhN,qso,tC,tOp,tUn,rU,qrm,tB,qsU,tOr,qsT,qry,qth,qql,qis,qr1,qoL,tCB,qs1,qsQ,qob,tBM,qsS,qnV,qlw,qrn,qp3,qpv,qpf,qtf,qsZ,qpz,qri,qsd,qnh,qsn,qpP,qm2,qni,tSl,qlg,qrk,qsX,qsc,qta,qpc,qqg,qoE,qnN,qmG,qm8,qk3,qsf,qs7,qlm,qqt,qqV,qpg,qoO,qsN,tIf,qtb,qoz,
 qqA,qrx,qqi,qq3,qrz,qrb,qp1,qrL,qrf,qrG,qq4,qqM,qqC,qqv,qrI,qsj,qsr,qr2,qsl,qsI,qrZ,qsF,qsm,qr0,qsH,qs8,qjb,
 qcf,List.replicate_succ,List.replicate_zero,List.map_cons,List.map_nil,Option.join_some,rIn,List.append_nil,List.cons_append,List.nil_append,List.getElem?_cons_zero,List.getElem?_cons_succ,List.set_cons_zero,List.set_cons_succ,Option.some.injEq,List.cons.injEq,V.int.injEq,V.bl.injEq,V.ref.injEq,V.ty.injEq,V.str.injEq,and_true,true_and,exists_eq_left,exists_eq_left',exists_and_left,exists_eq',exists_eq,reduceCtorEq,false_and,exists_false,or_false,false_or,decide_eq_true_eq,Bool.not_eq_true',Bool.not_eq_eq_eq_not,Bool.not_true,decide_eq_false_iff_not])
namespace Zk56
set_option maxHeartbeats 4000000
open PySem L2 PyProof.Rows
def top (i:Nat):Stmt:=PySem.Challenge.pw_allhits_k56_whole_duals_at_a_desk.main.body.getD i (.Pass ⟨0,0,0,0⟩)
structure Txt (mg:Str→Option Value):Prop where
 n_isinstance:mg "isinstance" = none
 n_int:mg "int" = none
 n_bool:mg "bool" = none
 n_len:mg "len" = none
 n_range:mg "range" = none
 n_sorted:mg "sorted" = none
 n_set:mg "set" = none
 n_list:mg "list" = none
 n_str:mg "str" = none
 n_all:mg "all" = none
 n_zip:mg "zip" = none
 c_MOST_SETS:∃t,mg "MOST_SETS" = some (.int 70 t)
 c_MOST_LETTERS:∃t,mg "MOST_LETTERS" = some (.int 8 t)
 c_MOST_NAMES:∃t,mg "MOST_NAMES" = some (.int 8 t)
 c_NO_SETS:∃t,mg "NO_SETS" = some (.str "none" t)
 c_NO_NAMES:∃t,mg "NO_NAMES" = some (.str "-" t)
 c_MOST_KEPT:∃t,mg "MOST_KEPT" = some (.int 20 t)
section
variable {P:Program} {w:World} {K:W.Frag} {mg:Str→Option Value} {base:Heap}
abbrev qb1:Stmt:=top 9
theorem qfS:qao ["thing"] ["thing"] (qac qb1):=⟨rfl,rfl,rfl,by decide +kernel,rfl,by decide +kernel,by decide +kernel⟩
/-- the class and the table of the text -/
structure Xt (P:Program) (w:World) (K:W.Frag) (mg:Str→Option Value) (cD aW:Addr):Prop where
 gDesk:mg "Desk" = some (.ref cD)
 cl:Cls K cD
 nw:qds K cD "words"
 nk:qds K cD "kept"
 gW:mg "WANTED" = some (.ref aW)
 wn:Wnt P w K aW
def qiF:Sp:=sp1 fun x H Q=>∃t,qmi H x=some t∧Q (.bl (qmy t "int" && !qmy t "bool")) H
theorem qnl {t:String} (h:t ≠ "int"):(qmy t "int" && !qmy t "bool")=false:=by
 have e:(t == "int")=false:=by simpa using h
 unfold qmy
 rw [e]
 cases (t == "bool")<;>rfl
theorem qi0 {f:Addr} {fd:FuncData} (F:Fun K "is_whole" "is_whole" qb1 f fd) (T:Txt mg)  : qa1 P w K mg base CX0 1 f fd ["thing"] qiF:=by
 have sc:=qfS
 refine F.ok qfS (fun vs H Q E h=>by obtain ⟨_,rfl,_⟩:=h;rfl) (fun cdv A outer s H vs Q E hr h=>?_)
 obtain ⟨x0,rfl,h⟩:=h
 refine ⟨_,(qaf (qai (qjm (qaA qca (by rfl) T.n_isinstance PyProof.Rows.boot_isinstance (qaa (pv 0) (qaa (qe7 (v := .ty "int") (by rfl) T.n_int PyProof.Rows.boot_int rfl) qab))) (qjJ (qrA (qaA qca (by rfl) T.n_isinstance PyProof.Rows.boot_isinstance (qaa (pv 0) (qaa (qe7 (v := .ty "bool") (by rfl) T.n_bool PyProof.Rows.boot_bool rfl) qab)))))))),?_⟩
 refine rdg (σ':=[some x0]) rfl ?_
 obtain ⟨t,hk,q⟩:=h
 walk_at "rd"
 refine ⟨x0, "int",⟨rfl,rfl⟩,t,hk,by decide,?_⟩
 split
 · rename_i h1
   refine ⟨x0, "bool",⟨rfl,rfl⟩,t,hk,by decide,?_⟩
   rw [h1,Bool.true_and] at q
   exact q
 · rename_i h1
   have h2:qmy t "int" = false:=by simpa using h1
   rw [h2,Bool.false_and] at q
   exact q
abbrev qbP:Stmt:=top 85
theorem qeq:qao ["_law_script", "_law_k", "_law_number"] ["_law_script", "_law_k"] (qac qbP):=⟨rfl,rfl,rfl,by decide +kernel,rfl,by decide +kernel,by decide +kernel⟩
def qjM (K:W.Frag):Sp:=sp2 fun x y H Q=>∃(a:Addr) (ns:List Int) (k:Nat),x = .ref a∧SqL K H a (ns.map V.int)∧ns.length≤63∧y = .int k∧k≤1000∧∀z:Int,Q (.int z) H
theorem qkZ {ns:List Int} {i:Int} (h0:0≤i) (h1:i<ns.length):∃z,atI (ns.map V.int) i=some (.int z):=by
 refine ⟨ns[i.toNat]'(by omega),?_⟩
 unfold atI ixN
 rw [if_pos h0,if_pos (by rw [List.length_map];exact h1)]
 simp [List.getElem?_eq_getElem (show i.toNat<ns.length by omega)]
theorem qh6 {f:Addr} {fd:FuncData} (F:Fun K "_law_cell" "_law_cell" qbP f fd) (T:Txt mg)  : qa1 P w K mg base CX0 1 f fd ["_law_script", "_law_k"] (qjM K):=by
 have sc:=qeq
 refine F.ok qeq (fun vs H Q E h=>by obtain ⟨_,_,rfl,_⟩:=h;rfl) (fun cdv A outer s H vs Q E hr h=>?_)
 obtain ⟨x0,x1,rfl,h⟩:=h
 refine ⟨_,(qad (qaz (qap qmz (pv 1) (qaA (qaT (K:=K) rfl) (by rfl) T.n_len PySem.boot_len (qaa (pv 0) qab)) (qas _)) (qaf (qai (qba (qcB (K:=K) rfl) (pv 0) (pv 1) (fun _ _=>rfl)))) qal)
   (qad (qay (i:=2) sc.nd rfl (Or.inl rfl) (qar qbz (qar qcL (pv 1) qag) qag))
   (qad (qaz (qap qng (qaA (qaT (K:=K) rfl) (by rfl) T.n_len PySem.boot_len (qaa (pv 0) qab)) qag (qas _)) (qaf (qay (i:=2) sc.nd rfl (Or.inl rfl) (qar qbd (qar qbz (qar qcL (qba (qcB (K:=K) rfl) (pv 0) (qar qbd (qar qcL (pv 1) qag) (qaA (qaT (K:=K) rfl) (by rfl) T.n_len PySem.boot_len (qaa (pv 0) qab))) (fun _ _=>rfl)) qag) (qar qcL (pv 1) qag)) qag))) qal)
   (qaf (qai (qar qbd (qar qcL (pv 2) (pv 2)) qag)))))),?_⟩
 refine rdg (σ':=[some x0,some x1,none]) rfl ?_
 obtain ⟨a,ns,k,rfl,hS,hl,rfl,hk,q⟩:=h
 walk_at "rd"
 refine ⟨_,.inl hS,?_⟩
 rw [List.length_map]
 split
 · rename_i hc
   obtain ⟨z,hz⟩:=qkZ (ns:=ns) (i:=k) (by omega) (by omega)
   exact qbl hS hz (q z)
 rename_i hc
 refine ⟨.inl ⟨by omega,by omega⟩,?_⟩
 have fin:∀z:Int,0≤z→z<2147483647→qrU z z:=fun z h0 h1 => .inl ⟨by omega,by omega⟩
 refine qkz (fun σ' H'=>∃z:Int,0≤z∧z<10000000000∧σ'=[some (V.ref a),some (V.int k),some (V.int z)]∧H'=H) ?_ fun N hN=>?_
 · rintro σ' H' ⟨z,z0,z1,rfl,rfl⟩
   (try walk_at "rd")
   exact ⟨.inl ⟨by omega,by omega⟩,by decide,q _⟩
 · (try walk_at "rd")
   refine ⟨_,.inl hS,?_⟩
   rw [List.length_map]
   split
   · rename_i h0
     refine ⟨.inl ⟨by omega,by omega⟩,_,.inl hS,by rw [List.length_map];omega,?_⟩
     rw [List.length_map]
     have e0:=Int.emod_nonneg ((k:Int)*7) (show (ns.length:Int)≠0 by omega)
     have e1:=Int.emod_lt_of_pos ((k:Int)*7) (show (0:Int)<ns.length by omega)
     obtain ⟨z,hz⟩:=qkZ (ns:=ns) e0 e1
     refine qbl hS hz ?_
     (try walk_at "rd")
     refine ⟨.inr ⟨by decide,by decide⟩,.inl ⟨by omega,by omega⟩,by decide,hN _ _ ⟨_,Int.emod_nonneg _ (by decide),?_,rfl,rfl⟩⟩
     have:=Int.emod_lt_of_pos (z*48271+(k:Int)*7919) (show (0:Int)<2147483647 by decide)
     omega
   · exact hN _ _ ⟨_,by omega,by omega,rfl,rfl⟩
abbrev qbZ:Stmt:=top 86
theorem qfk:qao ["_law_cell_here", "_law_k", "_law_number"] ["_law_cell_here", "_law_k"] (qac qbZ):=⟨rfl,rfl,rfl,by decide +kernel,rfl,by decide +kernel,by decide +kernel⟩
def qa7 (c:Int) (k:Nat):Nat:=((c%2147483647*48271+(k:Int)*k*69621+k+11)%2147483629*((c%2147483647*48271+(k:Int)*k*69621+k+11)%2147483629)%2147483587).toNat
def qkU:Sp:=sp2 fun x y H Q=>∃(c:Int) (k:Nat),x = .int c∧y = .int k∧k≤1000∧Q (.int (qa7 c k:Nat)) H
theorem qil {f:Addr} {fd:FuncData} (F:Fun K "_law_mix" "_law_mix" qbZ f fd) (T:Txt mg)  : qa1 P w K mg base CX0 1 f fd ["_law_cell_here", "_law_k"] qkU:=by
 have sc:=qfk
 refine F.ok qfk (fun vs H Q E h=>by obtain ⟨_,_,rfl,_⟩:=h;rfl) (fun cdv A outer s H vs Q E hr h=>?_)
 obtain ⟨x0,x1,rfl,h⟩:=h
 refine ⟨_,(qad (qay (i:=2) sc.nd rfl (Or.inl rfl) (qar qbd (qar qbz (qar qbz (qar qbz (qar qcL (qar qbd (pv 0) qag) qag) (qar qcL (qar qcL (pv 1) (pv 1)) qag)) (pv 1)) qag) qag))
   (qaf (qai (qar qbd (qar qcL (pv 2) (pv 2)) qag)))),?_⟩
 refine rdg (σ':=[some x0,some x1,none]) rfl ?_
 obtain ⟨c,k,rfl,rfl,hk,q⟩:=h
 walk_at "rd"
 have c0:=Int.emod_nonneg c (show (2147483647:Int)≠0 by decide)
 have c1:=Int.emod_lt_of_pos c (show (0:Int)<2147483647 by decide)
 have n0:=Int.emod_nonneg (c%2147483647*48271+(k:Int)*k*69621+k+11) (show (2147483629:Int)≠0 by decide)
 have n1:=Int.emod_lt_of_pos (c%2147483647*48271+(k:Int)*k*69621+k+11) (show (0:Int)<2147483629 by decide)
 have z0:=Int.emod_nonneg ((c%2147483647*48271+(k:Int)*k*69621+k+11)%2147483629*((c%2147483647*48271+(k:Int)*k*69621+k+11)%2147483629)) (show (2147483587:Int)≠0 by decide)
 refine ⟨by decide,.inl ⟨by omega,by omega⟩,.inl ⟨by omega,by omega⟩,.inr ⟨by decide,by decide⟩,by decide,.inl ⟨by omega,by omega⟩,by decide,?_⟩
 unfold qa7 at q
 rw [Int.toNat_of_nonneg z0] at q
 exact q
abbrev qbI:Stmt:=top 88
theorem qeu:qao ["_law_one", "_law_count"] ["_law_one"] (qac qbI):=⟨rfl,rfl,rfl,by decide +kernel,rfl,by decide +kernel,by decide +kernel⟩
def qkT:Sp:=sp1 fun x H Q=>∃a:Nat,x = .int a∧a<256∧Q (.int (Fam.pc 8 a:Nat)) H
theorem qpM:∀b:Nat,b<256→Fam.pc 8 b=b%2+Fam.pc 8 (b/2):=by decide +kernel
theorem qoA:Fam.pc 8 0=0:=by decide
theorem qhA {f:Addr} {fd:FuncData} (F:Fun K "_law_size" "_law_size" qbI f fd) (T:Txt mg)  : qa1 P w K mg base CX0 1 f fd ["_law_one"] qkT:=by
 have sc:=qeu
 refine F.ok qeu (fun vs H Q E h=>by obtain ⟨_,rfl,_⟩:=h;rfl) (fun cdv A outer s H vs Q E hr h=>?_)
 obtain ⟨x0,rfl,h⟩:=h
 refine ⟨_,(qad (qay (i:=1) sc.nd rfl (Or.inl rfl) qag)
   (qad (qnw PassesOwn.never (qap qng (pv 0) qag (qas _)) (qad (qay (i:=1) sc.nd rfl (Or.inl rfl) (qar qbz (pv 1) (qar qbd (pv 0) qag)))
   (qaf (qay (i:=0) sc.nd rfl (Or.inl rfl) (qar qna (pv 0) qag)))))
   (qaf (qai (pv 1))))),?_⟩
 refine rdg (σ':=[some x0,none]) rfl ?_
 obtain ⟨a,rfl,ha,q⟩:=h
 walk_at "rd"
 refine qrq (fun m σ H'=>∃c:Nat,σ=[some (.int m),some (.int c)]∧H'=H∧c+Fam.pc 8 m=Fam.pc 8 a∧m<256) a ⟨0,rfl,rfl,by omega,ha⟩ ?_
 rintro b σ H' ⟨c,rfl,rfl,e,hb⟩ T hT
 (try walk_at "rd")
 refine qoF (fun h0=>hT _ fun N hN=>?_) fun h0=>?_
 · (try walk_at "rd")
   have:=qpM b hb
   exact ⟨by decide,⟨by decide,by decide⟩,hN (b/2) _ _ (by omega) ⟨c+b%2,rfl,rfl,by omega,by omega⟩⟩
 · have:b=0:=by omega
   subst this
   rw [qoA] at e
   rw [←e] at q
   exact q
abbrev qbf:Stmt:=top 87
theorem qda:qao ["_law_script", "_law_start", "_law_many", "_law_most", "_law_first", "_law_sets", "_law_k", "_law_way", "_law_found", "_law_one"] ["_law_script", "_law_start", "_law_many", "_law_most"] (qac qbf):=⟨rfl,rfl,rfl,by decide +kernel,rfl,by decide +kernel,by decide +kernel⟩
def qgx (K:W.Frag):Sp:=sp4 fun x y z u H Q=>∃(a:Addr) (ns:List Int) (st m mo:Nat),x = .ref a∧SqL K H a (ns.map V.int)∧ns.length≤63∧y = .int st∧st≤500∧z = .int m∧m≤8∧u = .int mo∧mo≤69 ∧
 ∀(p:Addr) (fs:List Nat) (H':Hp),H p=none→Same H H'→H' p=some (.lst (nV fs))→fs.Pairwise (· < ·)→(∀b∈fs,b<2^m)→fs.length≤70→Q (.ref p) H'
theorem qj5 {m:Nat} (hm:m≤8):2^m≤256:=Nat.pow_le_pow_right (n:=2) (by decide) hm
theorem dbl (i:Nat):(2:Int)*((2^i:Nat):Int)=((2^(i+1):Nat):Int):=by rw [Nat.pow_succ];omega
theorem qim:∀m:Nat,m≤8→∀s:Nat,s≤8→((List.range (2^m)).filter fun k=>decide (Fam.pc 8 k=s)).length≤70:=by decide +kernel
theorem qjQ {m:Nat}:(([0,2^m-1]:List Nat).take (2^m)).Pairwise (· < ·)∧∀b∈([0,2^m-1]:List Nat).take (2^m),b<2^m:=by
 have:=Nat.two_pow_pos m
 refine ⟨?_,fun b hb=>?_⟩
 · rcases Nat.lt_or_ge (2^m) 2 with z | z
   · have:2^m=1:=by omega
     rw [this]
     simp
   · rw [List.take_of_length_le (by simpa using z)]
     simp
     omega
 · have:=List.mem_of_mem_take hb
   simp at this
   omega
theorem qfZ {f:Addr} {fd:FuncData} (F:Fun K "_law_family" "_law_family" qbf f fd) (T:Txt mg) {f_24:Addr} {fd_24:FuncData} (C_24:Cal P w K mg base "_law_cell" 1 ["_law_script", "_law_k"] (qjM K) f_24 fd_24) {f_32:Addr} {fd_32:FuncData} (C_32:Cal P w K mg base "_law_mix" 1 ["_law_cell_here", "_law_k"] qkU f_32 fd_32) {f_25:Addr} {fd_25:FuncData} (C_25:Cal P w K mg base "_law_size" 1 ["_law_one"] qkT f_25 fd_25):qa1 P w K mg base CX0 2 f fd ["_law_script", "_law_start", "_law_many", "_law_most"] (qgx K):=by
 have sc:=qda
 refine F.ok qda (fun vs H Q E h=>by obtain ⟨_,_,_,_,rfl,_⟩:=h;rfl) (fun cdv A outer s H vs Q E hr h=>?_)
 obtain ⟨x0,x1,x2,x3,rfl,h⟩:=h
 refine ⟨_,(qad (qay (i:=4) sc.nd rfl (Or.inr rfl) (qah C_24 hr (by decide) (by rfl) (qaa (pv 0) (qaa (pv 1) qab))))
   (qad (qay (i:=5) sc.nd rfl (Or.inl rfl) qag)
   (qad (qbG PassesOwn.never rfl (qaQ (by rfl) T.n_range (qaa (pv 2) qab)) (qau (i:=6) sc.nd rfl (Or.inl rfl)) (qaf (qay (i:=5) sc.nd rfl (Or.inl rfl) (qar qcL qag (pv 5)))))
   (qad (qay (i:=7) sc.nd rfl (Or.inl rfl) (qar qbd (qah C_32 hr (by decide) (by rfl) (qaa (pv 4) (qaa qag qab))) qag))
   (qad (qaz (qap (qaC (K:=K) rfl hr.units0) (pv 7) qag (qas _)) (qaf (qai (qaY (N:=["_law_one", "_law_first", "_law_many"]) (nt:=1) (caps:=[4,2]) qaJ rfl (qaQ (by rfl) T.n_range (qaa (pv 5) qab)) (fun _ _ _ _ _=>(qau (i:=0) (show List.Nodup (α:=Str) ["_law_one", "_law_first", "_law_many"] from by decide +kernel) rfl (Or.inl rfl))) qaO (fun _ _ _ _ _=>(qeV (qap (qaC (K:=K) rfl hr.units0) (qah C_25 hr (by decide) (by rfl) (qaa (pv 0) qab)) (qar qbd (qah C_32 hr (by decide) (by rfl) (qaa (pv 1) (qaa qag qab))) (qar qbz (pv 2) qag)) (qas _)))) (fun _ _ _ _ _=>(pv 0))))) qal)
   (qad (qaz (qap (qaC (K:=K) rfl hr.units0) (pv 7) qag (qas _)) (qaf (qai (qba (qcB (K:=K) rfl) (qa2 (qaa (qa2 qab) (qaa (qa2 (qaa qag qab)) (qaa (qa2 (qaa (qar qjo (pv 5) qag) qab)) (qaa (qc0 (qsg (K:=K) rfl) (qa2 (qaa qag (qaa (qar qjo (pv 5) qag) qab))) qd2 (qd3 (pv 5))) qab))))) (qar qbd (qah C_32 hr (by decide) (by rfl) (qaa (pv 4) (qaa qag qab))) qag) (fun _ _=>rfl)))) qal)
   (qad (qay (i:=8) sc.nd rfl (Or.inl rfl) (qa2 qab))
   (qad (qbG PassesOwn.never rfl (qaQ (by rfl) T.n_range (qaa (qar qbd (qah C_32 hr (by decide) (by rfl) (qaa (pv 4) (qaa qag qab))) (qar qbz (pv 3) qag)) qab)) (qau (i:=6) sc.nd rfl (Or.inl rfl)) (qad (qay (i:=9) sc.nd rfl (Or.inl rfl) (qar qbd (qah C_32 hr (by decide) (by rfl) (qaa (qah C_24 hr (by decide) (by rfl) (qaa (pv 0) (qaa (qar qbz (qar qbz (pv 1) qag) (pv 6)) qab))) (qaa (qar qbz qag (pv 7)) qab))) (pv 5)))
   (qad (qaz (qap qmz (pv 7) qag (qas _)) (qaf (qay (i:=9) sc.nd rfl (Or.inl rfl) (qar qdt (pv 9) (qar qbd (qah C_32 hr (by decide) (by rfl) (qaa (qah C_24 hr (by decide) (by rfl) (qaa (pv 0) (qaa (qar qbz (qar qbz (pv 1) qag) (pv 6)) qab))) (qaa qag qab))) (pv 5))))) qal)
   (qaf (qdp (qb8 PySem.F.plainAttrs_list PySem.F.slot_list_append PySem.F.type_list_append qcH (pv 8) (qaa (pv 9) qab)))))))
   (qaf (qai (qaA (qcV (P:=P) (w:=w) (K:=K) rfl rfl rfl rfl) (by rfl) T.n_sorted PyProof.Rows.boot_sorted (qaa (qcn (qhb (P:=P) (w:=w) (K:=K) rfl rfl rfl rfl) (by rfl) T.n_set PyProof.Rows.boot_set (qaa (pv 8) qab)) qab)))))))))))),?_⟩
 refine rdg (σ':=[some x0,some x1,some x2,some x3,none,none,none,none,none,none]) rfl ?_
 obtain ⟨a,ns,st,m,mo,rfl,hS,hl,rfl,hst,rfl,hm,rfl,hmo,q⟩:=h
 walk_at "rd"
 refine ⟨_,_,rfl,a,ns,st,rfl,hS,hl,rfl,by omega,fun first=>⟨by omega,by omega,?_⟩⟩
 rw [Int.toNat_natCast]
 have pp:=Nat.two_pow_pos m
 have p8:=qj5 hm
 refine qhg (fun i σ H'=>∃v,σ=[some (.ref a),some (.int st),some (.int m),some (.int mo),some (.int first),some (.int (2^i:Nat)),v,none,none,none]∧H'=H) ⟨none,rfl,rfl⟩ ?_ ?_
 · rintro i σ H' hi ⟨v,rfl,rfl⟩ N hN
   (try walk_at "rd")
   exact ⟨.inl ⟨by decide,by decide⟩,hN _ _ ⟨_,by rw [dbl],rfl⟩⟩
 rintro σ H' ⟨v,rfl,rfl⟩
 (try walk_at "rd")
 refine ⟨_,_,rfl,first,1,rfl,rfl,by omega,?_⟩
 (try walk_at "rd")
 have ew:((qa7 first 1:Nat):Int)%8=((qa7 first 1%8:Nat):Int):=rfl
 rw [ew]
 have w8:qa7 first 1%8<8:=Nat.mod_lt _ (by decide)
 generalize qa7 first 1%8=way at w8 ⊢
 refine ⟨by decide,qoF (fun h0=>?_) fun h0=>?_⟩
 · refine ⟨by omega,by omega,?_⟩
   rw [Int.toNat_natCast]
   refine qdb (fun k=>decide (Fam.pc 8 k=qa7 first 2%(m+1))) (fun k => .int (k:Nat)) (by omega) (fun k hk H1 sm R R' r1 r2=>?_) fun H1 p sm hp=>?_
   · (try walk_at "rd")
     refine ⟨_,rfl,k,rfl,by omega,⟨_,_,rfl,first,2,rfl,rfl,by omega,?_⟩⟩
     (try walk_at "rd")
     refine ⟨by omega,qgn (b:=decide (Fam.pc 8 k=qa7 first 2%(m+1))) ?_ (fun hc=>r1 hc _ (Same.refl _)) fun hc=>r2 hc _ (Same.refl _)⟩
     rw [decide_eq_true_eq]
     have:((qa7 first 2:Nat):Int)%((m:Int)+1)=((qa7 first 2%(m+1):Nat):Int):=rfl
     rw [this]
     omega
   · rw [qjE]
     have hms:qa7 first 2%(m+1)≤8:=by have:=Nat.mod_lt (qa7 first 2) (show 0<m+1 by omega);omega
     refine q p _ _ ?_ (sm.trans (Same.new hp)) qak (List.pairwise_lt_range.sublist List.filter_sublist) (fun b hb=>List.mem_range.mp (List.mem_filter.mp hb).1) (qim m hm _ hms)
     exact qaB sm hp
 refine qoF (fun h1=>?_) fun h1=>?_
 · have e1:((2^m:Nat):Int)-1=((2^m-1:Nat):Int):=by omega
   rw [e1]
   refine ⟨qaH (by simp),fun p0 hp0=>?_⟩
   generalize g0:upd H' p0 _=G0
   have a0:=qaw g0
   have t0:=qaq g0 hp0
   refine ⟨qaH (by simp),fun p1 hp1=>?_⟩
   generalize g1:upd G0 p1 _=G1
   have a1:=qaw g1
   have n1:=qaB t0 hp1
   have t1:=t0.trans (qaq g1 hp1)
   have a0:=qaq g1 hp1 _ _ a0
   refine ⟨qaH (by simp),fun p2 hp2=>?_⟩
   generalize g2:upd G1 p2 _=G2
   have a2:=qaw g2
   have n2:=qaB t1 hp2
   have t2:=t1.trans (qaq g2 hp2)
   have a0:=qaq g2 hp2 _ _ a0
   have a1:=qaq g2 hp2 _ _ a1
   refine ⟨qaH (by simp),fun p3 hp3=>?_⟩
   generalize g3:upd G2 p3 _=G3
   have a3:=qaw g3
   have t3:=t2.trans (qaq g3 hp3)
   have a0:=qaq g3 hp3 _ _ a0
   have a1:=qaq g3 hp3 _ _ a1
   have a2:=qaq g3 hp3 _ _ a2
   refine ⟨p3,_,rfl,SqL.of a3,fun p4 hp4=>?_⟩
   have ec:([V.int 0,V.int ((2^m-1:Nat))]).take (2^m)=nV (([0,2^m-1]:List Nat).take (2^m)):=by
     rw [nV,nI,List.map_take,List.map_take]
     rfl
   rw [qnR,ec]
   generalize g4:upd G3 p4 _=G4
   have a4:=qaw g4
   have n4:=qaB t3 hp4
   have t4:=t3.trans (qaq g4 hp4)
   have a0:=qaq g4 hp4 _ _ a0
   have a1:=qaq g4 hp4 _ _ a1
   have a2:=qaq g4 hp4 _ _ a2
   refine ⟨qaH (by simp),fun p5 hp5=>?_⟩
   generalize g5:upd G4 p5 _=G5
   have a5:=qaw g5
   have t5:=t4.trans (qaq g5 hp5)
   have a0:=qaq g5 hp5 _ _ a0
   have a1:=qaq g5 hp5 _ _ a1
   have a2:=qaq g5 hp5 _ _ a2
   have a4:=qaq g5 hp5 _ _ a4
   refine ⟨_,_,rfl,first,2,rfl,rfl,by omega,?_⟩
   (try walk_at "rd")
   have e4:((qa7 first 2:Nat):Int)%4=((qa7 first 2%4:Nat):Int):=rfl
   rw [e4]
   have w4:qa7 first 2%4<4:=Nat.mod_lt _ (by decide)
   generalize qa7 first 2%4=j at w4 ⊢
   refine ⟨by decide,?_⟩
   have hj:j=0∨j=1∨j=2∨j=3:=by omega
   rcases hj with rfl | rfl | rfl | rfl
   · exact qbl (SqL.of a5) rfl (q p0 [] _ hp0 t5 a0 List.Pairwise.nil (fun b hb=>by cases hb) (by decide))
   · exact qbl (SqL.of a5) rfl (q p1 [0] _ n1 t5 a1 (by simp) (fun b hb=>by simp at hb;omega) (by decide))
   · exact qbl (SqL.of a5) rfl (q p2 [2^m-1] _ n2 t5 a2 (by simp) (fun b hb=>by simp at hb;omega) (by simp))
   · exact qbl (SqL.of a5) rfl (q p4 _ _ n4 t5 a4 qjQ.1 qjQ.2 (by rw [List.length_take];simp;omega))
 refine ⟨qaH (by simp),fun p0 hp0=>?_⟩
 generalize g0:upd H' p0 _=G0
 have a0:=qaw g0
 have t0:=qaq g0 hp0
 refine ⟨_,_,rfl,first,3,rfl,rfl,by omega,?_⟩
 (try walk_at "rd")
 have e3:((qa7 first 3:Nat):Int)%((mo:Int)+1)=((qa7 first 3%(mo+1):Nat):Int):=rfl
 rw [e3,Int.toNat_natCast]
 have w3:qa7 first 3%(mo+1)<mo+1:=Nat.mod_lt _ (by omega)
 generalize qa7 first 3%(mo+1)=cnt at w3 ⊢
 refine ⟨by omega,by omega,by omega,?_⟩
 have hS0:=t0.seq hS
 refine qhg (fun i σ H2=>∃v1 v2 fs,σ=[some (.ref a),some (.int st),some (.int m),some (.int mo),some (.int first),some (.int (2^m:Nat)),v1,some (.int way),some (.ref p0),v2]∧H2=upd G0 p0 (.lst (nV fs))∧fs.length=i∧∀b∈fs,b<2^m) ⟨_,none,[],rfl,?_,rfl,fun b hb=>by cases hb⟩ ?_ ?_
 · rw [←g0,qe9];rfl
 · rintro i σ H2 hi ⟨v1,v2,fs,rfl,rfl,hlen,hb⟩ N0 hN0
   have t1:Same H' (upd G0 p0 (.lst (nV fs))):=by rw [←g0,qe9];exact Same.new hp0
   have hS1:=t1.seq hS
   (try walk_at "rd")
   refine ⟨_,_,rfl,a,ns,st+1+i,rfl,hS1,hl,by simp,by omega,fun c1=>⟨_,_,rfl,c1,4+way,rfl,by simp,by omega,?_⟩⟩
   (try walk_at "rd")
   have ec:((qa7 c1 (4+way):Nat):Int)%((2^m:Nat):Int)=((qa7 c1 (4+way)%2^m:Nat):Int):=rfl
   rw [ec]
   have wc:qa7 c1 (4+way)%2^m<2^m:=Nat.mod_lt _ pp
   generalize qa7 c1 (4+way)%2^m=one at wc ⊢
   refine ⟨by omega,?_⟩
   refine qkz (fun σ' H2=>∃b:Nat,b<2^m∧σ'=[some (.ref a),some (.int st),some (.int m),some (.int mo),some (.int first),some (.int (2^m:Nat)),some (.int (i:Nat)),some (.int way),some (.ref p0),some (.int b)]∧H2=upd G0 p0 (.lst (nV fs))) ?_ fun N hN=>?_
   · rintro σ' H2 ⟨b,hb2,rfl,rfl⟩
     (try walk_at "rd")
     refine ⟨qej (by rw [qbV];omega),hN0 _ _ ⟨_,_,fs++[b],rfl,by rw [qio],by simp [hlen],fun c hc=>?_⟩⟩
     rcases List.mem_append.mp hc with z | z
     · exact hb c z
     · have:c=b:=by simpa using z
       subst this
       exact hb2
   · (try walk_at "rd")
     refine qoF (fun h5=>?_) fun h5=>hN _ _ ⟨one,wc,rfl,rfl⟩
     refine ⟨_,_,rfl,a,ns,st+1+i,rfl,hS1,hl,by simp,by omega,fun c2=>⟨_,_,rfl,c2,5,rfl,rfl,by omega,?_⟩⟩
     (try walk_at "rd")
     have e2:((qa7 c2 5:Nat):Int)%((2^m:Nat):Int)=((qa7 c2 5%2^m:Nat):Int):=rfl
     rw [e2,qcG]
     exact ⟨by omega,hN _ _ ⟨_,Nat.lt_of_le_of_lt Nat.and_le_left wc,rfl,rfl⟩⟩
 · rintro σ H2 ⟨v1,v2,fs,rfl,rfl,hlen,hb⟩
   (try walk_at "rd")
   have t1:Same H' (upd G0 p0 (.lst (nV fs))):=by rw [←g0,qe9];exact Same.new hp0
   refine ⟨p0,_,rfl,SqL.of qak,by simp;omega,fun p6 hp6=>?_⟩
   generalize g6:upd _ p6 _=G6
   have a6:=qaw g6
   have t6:=t1.trans (qaq g6 hp6)
   have ld:(qdF (nI fs)).length≤fs.length:=Nat.le_trans (qcF _) (by simp)
   refine ⟨p6,_,rfl,.inr a6,by omega,fun p7 ms hp7 m1 m2=>?_⟩
   have lsd:(sd fs).length≤fs.length:=by
     have:=m1.length_eq
     rw [qcj m1 m2] at this
     simp at this
     omega
   rw [qcj m1 m2]
   exact q p7 (sd fs) _ (qaB t6 hp7) (t6.trans (Same.new hp7)) qak (qaU fs) (fun b hb2=>hb b (qcw.mp hb2)) (by omega)
abbrev qbC:Stmt:=top 89
theorem qdS:qao ["_law_cell_here", "_law_count", "_law_letters", "_law_size_here", "_law_words_here", "_law_long", "_law_k", "_law_word"] ["_law_cell_here", "_law_count"] (qac qbC):=⟨rfl,rfl,rfl,by decide +kernel,rfl,by decide +kernel,by decide +kernel⟩
theorem qkx {n:Nat} {G:Nat→Str} (hn:n≤8) (h:∀k,k<n→Tx.Wd (G k)) (h1:∀i j,i<j→j<n→G i≠G j) (h2:∀k,k<n→G k ≠ "none"):Tx.Wds ((List.range n).map G):=by
 refine ⟨by simpa using hn,?_,fun w hw=>?_,fun hw=>?_⟩
 · unfold List.Nodup
   rw [List.pairwise_map]
   exact (List.pairwise_lt_range).imp_of_mem fun _ hb hlt=>h1 _ _ hlt (List.mem_range.mp hb)
 · obtain ⟨k,hk,rfl⟩:=List.mem_map.mp hw
   exact h k (List.mem_range.mp hk)
 · obtain ⟨k,hk,e⟩:=List.mem_map.mp hw
   exact h2 k (List.mem_range.mp hk) e
theorem qrs {ys:List Str} (h:∀y∈ys,∃c,y=⟨#[c]⟩∧c≤109):∀c∈Tx.sg (_root_.PySem.Txt.join ("" : Str) ys),c≤109:=fun c hc=>by
 rw [qdQ] at hc
 obtain ⟨l,hl,hcl⟩:=List.mem_flatten.mp hc
 obtain ⟨y,hy,rfl⟩:=List.mem_map.mp hl
 obtain ⟨d,rfl,hd⟩:=h y hy
 rw [show c=d from by simpa [Tx.sg] using hcl]
 exact hd
theorem qji {z:Str} (h:∀c∈Tx.sg z,c≤109):z ≠ "none" := fun e=>by
 have:=h 110 (by rw [e];decide +kernel)
 omega
theorem qqk {n j:Nat} (h:j<n):ixN n (j:Int)=some j:=by
 unfold ixN
 rw [if_pos (by omega),if_pos (by omega),Int.toNat_natCast]
def one (x:Nat):Str:=⟨#[x]⟩
theorem qgS (l:List Nat):Tx.sg (_root_.PySem.Txt.join ("" : Str) (l.map one))=l:=by
 rw [qdQ,List.map_map]
 induction l with
 | nil=>rfl
 | cons x l ih =>
   rw [List.map_cons,List.flatten_cons,ih]
   rfl
def qdr (w:Str):Str:=if w = "none" then "nones" else w
theorem qmZ (w:Str):qdr w ≠ "none" := by
 unfold qdr
 split
 · decide +kernel
 · rename_i h
   exact h
theorem qne {v w:Str} (hl:v.length=w.length) (h:qdr v=qdr w):v=w:=by
 have l4:("none" : Str).length=4:=by decide +kernel
 have l5:("nones" : Str).length=5:=by decide +kernel
 unfold qdr at h
 by_cases a:v = "none" <;> by_cases b:w = "none"
 · rw [a,b]
 · rw [if_pos a,if_neg b] at h
   rw [←h,a] at hl
   omega
 · rw [if_neg a,if_pos b] at h
   rw [h,b] at hl
   omega
 · rw [if_neg a,if_neg b] at h
   exact h
theorem qqX {y:Str} (e:¬y=Str.ofString "none"):y++Str.empty=qdr y:=by
 unfold qdr
 rw [if_neg e]
 show (⟨y.cps++#[]⟩:Str)=y
 rw [Array.append_empty]
theorem qqS {y r:Str} (e:y=Str.ofString "none") (h:∀c∈Tx.sg r,c∈Tx.sg (Str.ofString "s")) (hl:r.length=1):y++r=qdr y:=by
 rw [←Tx.len_sg] at hl
 have e115:Tx.sg (Str.ofString "s")=[115]:=by decide +kernel
 have es:Tx.sg r=[115]:=by
   match hh:Tx.sg r,hl with
   | [x],_ =>
     have:=h x (by rw [hh];exact List.mem_cons_self)
     rw [e115] at this
     rw [List.mem_singleton.mp this]
 have er:r=Str.ofString "s" := by
   have:=es.trans e115.symm
   cases r
   exact congrArg Str.mk (Array.toList_inj.mp this)
 rw [er,e]
 unfold qdr
 rw [if_pos rfl]
 decide +kernel
def wdN (b:List Nat) (u x k:Nat):Str:=_root_.PySem.Txt.join ("" : Str) ((b.set u (97+(x+3*k)%26)).map one)
theorem qfE (b:List Nat) (u x k:Nat):(wdN b u x k).length=b.length:=by
 rw [←Tx.len_sg,wdN,qgS,List.length_set]
theorem qpp {n u x:Nat} {b:List Nat} (hn:n≤7) (h1:1≤b.length) (h8:b.length≤8) (hl:∀y∈b,97≤y∧y≤122) (hu:u<b.length):Tx.Wds ((List.range n).map fun k=>qdr (wdN b u x k)):=by
 refine qkx (by omega) (fun k hk=>?_) (fun i j hij hj e=>?_) fun k _=>qmZ _
 · unfold qdr
   split
   · exact ⟨by decide +kernel,by decide +kernel,by decide +kernel⟩
   · refine ⟨by rw [qfE];exact h1,by rw [qfE];exact h8,fun c hc=>?_⟩
     rw [wdN,qgS] at hc
     rcases List.mem_or_eq_of_mem_set hc with h | h
     · exact hl c h
     · omega
 · have e:=congrArg Tx.sg (qne (by rw [qfE,qfE]) e)
   rw [wdN,wdN,qgS,qgS] at e
   have e:=congrArg (fun l=>l[u]?) e
   simp only [List.getElem?_set_self hu] at e
   have e:=Option.some.inj e
   omega
def qeY (K:W.Frag):Sp:=sp2 fun x y H Q=>∃(c:Int) (n:Nat),x = .int c∧y = .int (n:Nat)∧n≤7∧∀(p:Addr) (ws:List Str) (H':Hp),H p=none→Same H H'→H' p=some (.lst (sV ws))→Tx.Wds ws→ws.length=n→Q (.ref p) H'
theorem qgX {f:Addr} {fd:FuncData} (F:Fun K "_law_words" "_law_words" qbC f fd) (T:Txt mg) {f_32:Addr} {fd_32:FuncData} (C_32:Cal P w K mg base "_law_mix" 1 ["_law_cell_here", "_law_k"] qkU f_32 fd_32):qa1 P w K mg base CX0 2 f fd ["_law_cell_here", "_law_count"] (qeY K):=by
 have sc:=qdS
 refine F.ok qdS (fun vs H Q E h=>by obtain ⟨_,_,rfl,_⟩:=h;rfl) (fun cdv A outer s H vs Q E hr h=>?_)
 obtain ⟨x0,x1,rfl,h⟩:=h
 refine ⟨_,(qad (qay (i:=2) sc.nd rfl (Or.inr rfl) qaj)
   (qad (qay (i:=3) sc.nd rfl (Or.inl rfl) (qar qbz qag (qar qbd (qah C_32 hr (by decide) (by rfl) (qaa (pv 0) (qaa qag qab))) qag)))
   (qad (qay (i:=4) sc.nd rfl (Or.inl rfl) (qa2 qab))
   (qad (qay (i:=5) sc.nd rfl (Or.inr rfl) (qb8 PySem.F.plainAttrs_str PySem.F.slot_str_join PySem.F.type_str_join (qce (K:=K) rfl) qaj (qaa (qaY (N:=["_law_j", "_law_letters", "_law_cell_here"]) (nt:=1) (caps:=[2,0]) qaJ rfl (qaQ (by rfl) T.n_range (qaa qag qab)) (fun _ _ _ _ _=>(qau (i:=0) (show List.Nodup (α:=Str) ["_law_j", "_law_letters", "_law_cell_here"] from by decide +kernel) rfl (Or.inl rfl))) qaO (fun _ _ _ _ _=>qaZ) (fun _ _ _ _ _=>(qdk (pv 1) (qar qbd (qah C_32 hr (by decide) (by rfl) (qaa (pv 2) (qaa (qar qbz qag (pv 0)) qab))) qag) (fun _ _=>rfl)))) qab)))
   (qad (qaz (qap (qaC (K:=K) rfl hr.units0) (qar qbd (qah C_32 hr (by decide) (by rfl) (qaa (pv 0) (qaa qag qab))) qag) qag (qas _)) (qaf (qai (qaY (N:=["_law_k", "_law_long"]) (nt:=1) (caps:=[5]) qaJ rfl (qaQ (by rfl) T.n_range (qaa (pv 1) qab)) (fun _ _ _ _ _=>(qau (i:=0) (show List.Nodup (α:=Str) ["_law_k", "_law_long"] from by decide +kernel) rfl (Or.inl rfl))) qaO (fun _ _ _ _ _=>qaZ) (fun _ _ _ _ _=>(qc0 qon (pv 1) qd2 (qd3 (qar qbz (pv 0) qag))))))) qal)
   (qad (qaz (qap (qaC (K:=K) rfl hr.units0) (qar qbd (qah C_32 hr (by decide) (by rfl) (qaa (pv 0) (qaa qag qab))) qag) qag (qas _)) (qaf (qai (qaY (N:=["_law_k", "_law_long"]) (nt:=1) (caps:=[5]) qaJ rfl (qaQ (by rfl) T.n_range (qaa (pv 1) qab)) (fun _ _ _ _ _=>(qau (i:=0) (show List.Nodup (α:=Str) ["_law_k", "_law_long"] from by decide +kernel) rfl (Or.inl rfl))) qaO (fun _ _ _ _ _=>qaZ) (fun _ _ _ _ _=>(qc0 qon (pv 1) (qd3 (qar qjo qag (pv 0))) qd2))))) qal)
   (qad (qbG PassesOwn.never rfl (qaQ (by rfl) T.n_range (qaa (pv 1) qab)) (qau (i:=6) sc.nd rfl (Or.inl rfl)) (qad (qfI (i:=7) sc.nd rfl rfl (by rfl) (N:=["_law_j", "_law_letters", "_law_cell_here"]) (nt:=1) (caps:=[2,0]) qaJ rfl (qaQ (by rfl) T.n_range (qaa (pv 3) qab)) (fun _ _ _ _ _=>(qau (i:=0) (show List.Nodup (α:=Str) ["_law_j", "_law_letters", "_law_cell_here"] from by decide +kernel) rfl (Or.inl rfl))) qaO (fun _ _ _ _ _=>qaZ) (fun _ _ _ _ _=>(qdk (pv 1) (qar qbd (qah C_32 hr (by decide) (by rfl) (qaa (pv 2) (qaa (qar qbz qag (pv 0)) qab))) qag) (fun _ _=>rfl))))
   (qad (qqU (qdk (pv 2) (qar qbd (qar qbz (qah C_32 hr (by decide) (by rfl) (qaa (pv 0) (qaa qag qab))) (qar qcL qag (pv 6))) qag) (fun _ _=>rfl)) (qqI (pv 7) (qar qbd (qah C_32 hr (by decide) (by rfl) (qaa (pv 0) (qaa qag qab))) (pv 3)) qmK))
   (qaf (qdp (qb8 PySem.F.plainAttrs_list PySem.F.slot_list_append PySem.F.type_list_append qcH (pv 4) (qaa (qb8 PySem.F.plainAttrs_str PySem.F.slot_str_join PySem.F.type_str_join (qce (K:=K) rfl) qaj (qaa (pv 7) qab)) qab)))))))
   (qaf (qai (qaY (N:=["_law_word"]) (nt:=1) (caps:=[]) qaJ rfl (qaL (pv 4)) (fun _ _ _ _ _=>(qau (i:=0) (show List.Nodup (α:=Str) ["_law_word"] from by decide +kernel) rfl (Or.inl rfl))) qaO (fun _ _ _ _ _=>qaZ) (fun _ _ _ _ _=>(qar qaM (pv 0) (qar qpY qaj (qcn qk7 (by rfl) T.n_int PyProof.Rows.boot_int (qaa (qgP (qaC (K:=K) rfl hr.units0) (pv 0) qaj (qas _)) qab))))))))))))))),?_⟩
 refine rdg (σ':=[some x0,some x1,none,none,none,none,none,none]) rfl ?_
 obtain ⟨c,n,rfl,rfl,hn,q⟩:=h
 walk_at "rd"
 have hnn:(n:Int)<2^62:=by omega
 have hn0:-2^62≤(n:Int):=by omega
 have b13:∀k,qa7 c k%13<13:=fun k=>Nat.mod_lt _ (by decide)
 have b26:∀k,qa7 c k%26<26:=fun k=>Nat.mod_lt _ (by decide)
 refine ⟨_,_,rfl,c,40,rfl,rfl,by decide,?_⟩
 (try walk_at "rd")
 refine ⟨by decide,qaH (by simp),fun p hp=>⟨rfl,by decide,by decide,?_⟩⟩
 generalize g1:upd H p _=G1
 have a1:=qaw g1
 have t1:=qaq g1 hp
 rw [show Int.toNat 8=8 from rfl]
 refine qdb (fun _=>true) (fun k => .str ⟨#[97+qa7 c (41+k)%13]⟩) (by decide) (fun k hk H1 s1 R R' r1 r2=>?_) fun H1 p1 s1 hp1=>?_
 · (try walk_at "rd")
   refine ⟨_,_,rfl,c,41+k,rfl,by simp,by omega,?_⟩
   (try walk_at "rd")
   have e:=b13 (41+k)
   refine ⟨by decide,by omega,by omega,by rw [show (Str.ofString "abcdefghijklmnopqrstuvwxyz").length=26 from qig];omega,_,qlK _ (by omega),?_⟩
   exact r1 rfl _ (Same.refl _)
 rw [List.filter_eq_self.mpr fun _ _=>rfl,qel]
 generalize g2:upd H1 p1 _=G2
 have a2:=qaw g2
 have t2:=(t1.trans s1).trans (qaq g2 hp1)
 have a1:=qaq g2 hp1 _ _ (s1 _ _ a1)
 refine ⟨_,p1,_,rfl,rfl,SqL.of a2,qbn (M:=1) (N:=8) (fun y hy=>?_) (by simp) (by decide +kernel) (by decide),?_⟩
 · obtain ⟨k,_,rfl⟩:=List.mem_map.mp hy
   exact Nat.le_refl 1
 obtain ⟨hz8,hzl⟩:=qpZ (ys:=(List.range 8).map fun k:Nat=>(⟨#[97+qa7 c (41+k)%13]⟩:Str)) fun y hy=>by
   obtain ⟨k,_,rfl⟩:=List.mem_map.mp hy
   have:=b13 (41+k)
   exact ⟨_,rfl,by omega,by omega⟩
 have hz13:=qrs (ys:=(List.range 8).map fun k:Nat=>(⟨#[97+qa7 c (41+k)%13]⟩:Str)) fun y hy=>by
   obtain ⟨k,_,rfl⟩:=List.mem_map.mp hy
   have:=b13 (41+k)
   exact ⟨_,rfl,by omega⟩
 rw [List.length_map,List.length_range] at hz8
 generalize _root_.PySem.Txt.join (Str.ofString "") ((List.range 8).map fun k:Nat=>(⟨#[97+qa7 c (41+k)%13]⟩:Str))=z at hz8 hzl hz13 ⊢
 have zb:z.length≤100000:=by omega
 refine ⟨_,_,rfl,c,52,rfl,rfl,by decide,?_⟩
 (try walk_at "rd")
 refine ⟨by decide,qoF (fun h1=>⟨hn0,hnn,?_⟩) fun h1=>⟨_,_,rfl,c,52,rfl,rfl,by decide,?_⟩⟩
 · rw [Int.toNat_natCast]
   refine qdb (fun _=>true) (fun k => .str (_root_.PySem.Txt.slice z none (some ((k+1:Nat):Int)))) (by omega) (fun k hk H2 s2 R R' r1 r2=>?_) fun H2 p2 s2 hp2=>?_
   · (try walk_at "rd")
     exact ⟨_,rfl,zb,r1 rfl _ (Same.refl _)⟩
   rw [List.filter_eq_self.mpr fun _ _=>rfl,qel]
   have ln:∀k,k<n→(_root_.PySem.Txt.slice z none (some ((k+1:Nat):Int))).length=k+1:=fun k hk=>qrw (by omega)
   refine q p2 _ _ (qaB (t2.trans s2) hp2) ((t2.trans s2).trans (Same.new hp2)) qak (qkx (by omega) (fun k hk=>?_) (fun i j hij hj e=>?_) fun k hk=>qji fun c hc=>hz13 c (qe4 c hc)) (by simp)
   · have:=ln k hk
     exact ⟨by omega,by omega,qi7 hzl⟩
   · have z1:=ln i (by omega)
     have z2:=ln j hj
     rw [e] at z1
     omega
 (try walk_at "rd")
 refine ⟨by decide,qoF (fun h2=>⟨hn0,hnn,?_⟩) fun h2=>⟨hn0,hnn,?_⟩⟩
 · rw [Int.toNat_natCast]
   refine qdb (fun _=>true) (fun k => .str (_root_.PySem.Txt.slice z (some ((7-k:Nat):Int)) none)) (by omega) (fun k hk H2 s2 R R' r1 r2=>?_) fun H2 p2 s2 hp2=>?_
   · (try walk_at "rd")
     rw [show (7:Int)-(k:Nat)=((7-k:Nat):Int) by omega]
     exact ⟨_,rfl,zb,r1 rfl _ (Same.refl _)⟩
   rw [List.filter_eq_self.mpr fun _ _=>rfl,qel]
   have ln:∀k,k<n→(_root_.PySem.Txt.slice z (some ((7-k:Nat):Int)) none).length=k+1:=fun k hk=>by
     have:=qmQ (z:=z) (i:=7-k) (by omega)
     omega
   refine q p2 _ _ (qaB (t2.trans s2) hp2) ((t2.trans s2).trans (Same.new hp2)) qak (qkx (by omega) (fun k hk=>?_) (fun i j hij hj e=>?_) fun k hk=>qji fun c hc=>hz13 c (qe4 c hc)) (by simp)
   · have:=ln k hk
     exact ⟨by omega,by omega,qi7 hzl⟩
   · have z1:=ln i (by omega)
     have z2:=ln j hj
     rw [e] at z1
     omega
 rw [Int.toNat_natCast]
 have hs:=Nat.mod_lt (qa7 c 40) (show 0<8 by decide)
 have es:(1:Int)+((qa7 c 40:Nat):Int)%8=((1+qa7 c 40%8:Nat):Int):=by omega
 rw [es]
 have hS1:1≤1+qa7 c 40%8:=by omega
 have hS8:1+qa7 c 40%8≤8:=by omega
 generalize 1+qa7 c 40%8=S at hS1 hS8 ⊢
 have ub:=Nat.mod_lt (qa7 c 50) (show 0<S by omega)
 refine qhg (fun i σ H'=>∃(v6 v7:Option V),σ=[some (.int c),some (.int (n:Nat)),some (.str (Str.ofString "abcdefghijklmnopqrstuvwxyz")),some (.int (S:Nat)),some (.ref p),some (.str z),v6,v7]∧Same H H'∧H' p=some (.lst (sV ((List.range i).map (wdN ((List.range S).map fun j=>97+qa7 c (41+j)%26) (qa7 c 50%S) (qa7 c 51)))))) ⟨none,none,rfl,t2,a1⟩ ?_ ?_
 · rintro i σ H3 hi ⟨v6,v7,rfl,s3,a3⟩ N hN
   (try walk_at "rd")
   refine ⟨by omega,by omega,?_⟩
   rw [Int.toNat_natCast]
   refine qdb (fun _=>true) (fun j => .str (one (97+qa7 c (41+j)%26))) (by omega) (fun j hj H4 s4 R R' r1 r2=>?_) fun H4 p4 s4 hp4=>?_
   · (try walk_at "rd")
     refine ⟨_,_,rfl,c,41+j,rfl,by simp,by omega,?_⟩
     (try walk_at "rd")
     have e:=b26 (41+j)
     refine ⟨by decide,by omega,by omega,by rw [show (Str.ofString "abcdefghijklmnopqrstuvwxyz").length=26 from qig];omega,_,qlK _ (by omega),?_⟩
     exact r1 rfl _ (Same.refl _)
   rw [List.filter_eq_self.mpr fun _ _=>rfl,qel]
   generalize g4:upd H4 p4 _=G4
   have a4:=qaw g4
   have t4:=(s3.trans s4).trans (qaq g4 hp4)
   have np:p≠p4:=qa8 (s4 _ _ a3) hp4
   have a3:=qaq g4 hp4 _ _ (s4 _ _ a3)
   have np4:H p4=none:=qaB (s3.trans s4) hp4
   have ex:(((qa7 c 51:Nat):Int)+3*(i:Nat))%26=(((qa7 c 51+3*i)%26:Nat):Int):=by omega
   have x26:=Nat.mod_lt (qa7 c 51+3*i) (show 0<26 by decide)
   refine ⟨_,_,rfl,c,51,rfl,rfl,by decide,.inl ⟨by decide,by decide⟩,?_⟩
   (try walk_at "rd")
   rw [ex]
   refine ⟨by decide,by omega,by omega,by rw [show (Str.ofString "abcdefghijklmnopqrstuvwxyz").length=26 from qig];omega,_,qlK _ (by omega),?_⟩
   refine ⟨_,_,rfl,c,50,rfl,rfl,by decide,?_⟩
   (try walk_at "rd")
   refine ⟨by omega,p4,_,_,qa7 c 50%S,rfl,rfl,a4,qqk (by rw [qbo,List.length_map,List.length_range];exact ub),?_⟩
   rw [Int.toNat_natCast]
   have es:(sV ((List.range S).map fun j=>one (97+qa7 c (41+j)%26))).set (qa7 c 50%S) (.str ⟨#[97+(qa7 c 51+3*i)%26]⟩)=sV ((((List.range S).map fun j=>97+qa7 c (41+j)%26).set (qa7 c 50%S) (97+(qa7 c 51+3*i)%26)).map one):=by
     unfold sV
     simp only [List.map_set,List.map_map]
     rfl
   rw [es]
   generalize g5:upd G4 p4 _=G5
   have a5:G5 p4=some (.lst (sV ((((List.range S).map fun j=>97+qa7 c (41+j)%26).set (qa7 c 50%S) (97+(qa7 c 51+3*i)%26)).map one))):=by rw [←g5];exact qak
   have b3:G5 p=some (.lst (sV ((List.range i).map (wdN ((List.range S).map fun j=>97+qa7 c (41+j)%26) (qa7 c 50%S) (qa7 c 51))))):=by rw [←g5,qax np];exact a3
   have t5:Same H G5:=by rw [←g5];exact t4.upd np4
   refine ⟨qdG b3,rfl,_,p4,_,rfl,rfl,SqL.of a5,qbn (M:=1) (N:=8) (fun y hy=>?_) (by rw [List.length_map,List.length_set,List.length_map,List.length_range];exact hS8) (by decide +kernel) (by decide),?_⟩
   · obtain ⟨k,_,rfl⟩:=List.mem_map.mp hy
     exact Nat.le_refl 1
   refine ⟨p,_,_,rfl,rfl,b3,qej (by rw [qbo,List.length_map,List.length_range];omega),hN _ _ ⟨_,_,rfl,t5.upd hp,?_⟩⟩
   rw [qak,List.range_succ,List.map_append]
   show _=some (HO.lst (List.map V.str (_++_)))
   rw [List.map_append]
   rfl
 · rintro σ H3 ⟨v6,v7,rfl,s3,a3⟩
   (try walk_at "rd")
   refine ⟨⟨_,SqL.of a3⟩,qmh (fs:=sV ((List.range n).map (wdN ((List.range S).map fun j=>97+qa7 c (41+j)%26) (qa7 c 50%S) (qa7 c 51)))) (fun _=>true) (fun v=>match v with | .str y => .str (qdr y) | v=>v) (SqL.of a3) (by rw [qbo,List.length_map,List.length_range];omega) (fun x hx H4 s4 R R' r1 r2=>?_) fun H4 p4 s4 hp4=>?_⟩
   · obtain ⟨y,hy,rfl⟩:=List.mem_map.mp hx
     obtain ⟨k,hk,rfl⟩:=List.mem_map.mp hy
     have ly:=qfE ((List.range S).map fun j=>97+qa7 c (41+j)%26) (qa7 c 50%S) (qa7 c 51) k
     rw [List.length_map,List.length_range] at ly
     generalize wdN ((List.range S).map fun j=>97+qa7 c (41+j)%26) (qa7 c 50%S) (qa7 c 51) k=y at ly r1 ⊢
     (try walk_at "rd")
     have zz:100000≤sizeLine:=by decide
     by_cases e:y=Str.ofString "none"
     · rw [if_pos e]
       refine .inr ⟨_,1,rfl,rfl,by decide,by decide,by decide +kernel,fun r hr hl=>?_⟩
       rw [show (Str.ofString "s").length=1 by decide +kernel] at hl
       refine ⟨_,rfl,by omega,?_⟩
       rw [qqS e hr (by omega)]
       exact r1 rfl _ (Same.refl _)
     · rw [if_neg e]
       refine .inl ⟨_,rfl,rfl,_,rfl,by rw [show Str.empty.length=0 from rfl];omega,?_⟩
       rw [qqX e]
       exact r1 rfl _ (Same.refl _)
   · rw [List.filter_eq_self.mpr fun _ _=>rfl]
     rw [show (sV ((List.range n).map (wdN ((List.range S).map fun j=>97+qa7 c (41+j)%26) (qa7 c 50%S) (qa7 c 51)))).map (fun v=>match v with | .str y => .str (qdr y) | v=>v)=sV ((List.range n).map fun k=>qdr (wdN ((List.range S).map fun j=>97+qa7 c (41+j)%26) (qa7 c 50%S) (qa7 c 51) k)) from by unfold sV;rw [List.map_map,List.map_map,List.map_map];rfl]
     refine q p4 _ _ (qaB (s3.trans s4) hp4) ((s3.trans s4).trans (Same.new hp4)) qak (qpp hn (by simpa using hS1) (by simpa using hS8) (fun y hy=>?_) (by simpa using ub)) (by simp)
     obtain ⟨j,_,rfl⟩:=List.mem_map.mp hy
     have:=b26 (41+j)
     omega
abbrev qaW:Stmt:=top 90
theorem qcz:qao ["_law_words_here", "_law_one", "_law_found"] ["_law_words_here", "_law_one"] (qac qaW):=⟨rfl,rfl,rfl,by decide +kernel,rfl,by decide +kernel,by decide +kernel⟩
def qiV (K:W.Frag):Sp:=sp2 fun x y H Q=>∃(p:Addr) (ws:List Str) (a:Nat),x = .ref p∧H p=some (.lst (sV ws))∧Tx.Wds ws∧y = .int (a:Nat)∧a<2^ws.length∧∀H',Same H H'→Q (.str (Tx.sT ws a)) H'
theorem qeA {f:Addr} {fd:FuncData} (F:Fun K "_law_set_text" "_law_set_text" qaW f fd) (T:Txt mg)  : qa1 P w K mg base CX0 1 f fd ["_law_words_here", "_law_one"] (qiV K):=by
 have sc:=qcz
 refine F.ok qcz (fun vs H Q E h=>by obtain ⟨_,_,rfl,_⟩:=h;rfl) (fun cdv A outer s H vs Q E hr h=>?_)
 obtain ⟨x0,x1,rfl,h⟩:=h
 refine ⟨_,(qad (qfI (i:=2) sc.nd rfl rfl (by rfl) (N:=["_law_k", "_law_words_here", "_law_one"]) (nt:=1) (caps:=[0,1]) qaJ rfl (qaQ (by rfl) T.n_range (qaa (qaA (qaT (K:=K) rfl) (by rfl) T.n_len PySem.boot_len (qaa (pv 0) qab)) qab)) (fun _ _ _ _ _=>(qau (i:=0) (show List.Nodup (α:=Str) ["_law_k", "_law_words_here", "_law_one"] from by decide +kernel) rfl (Or.inl rfl))) qaO (fun _ _ _ _ _=>(qeV (qap (qaC (K:=K) rfl hr.units0) (qar qdt (qar qkO (pv 2) (pv 0)) qag) qag (qas _)))) (fun _ _ _ _ _=>(qba (qcB (K:=K) rfl) (pv 1) (pv 0) (fun _ _=>rfl))))
   (qad (qaz (qap (qaC (K:=K) rfl hr.units0) (pv 2) (qa2 qab) (qas _)) (qaf (qai qaj)) qal)
   (qaf (qai (qb8 PySem.F.plainAttrs_str PySem.F.slot_str_join PySem.F.type_str_join (qce (K:=K) rfl) qaj (qaa (pv 2) qab)))))),?_⟩
 refine rdg (σ':=[some x0,some x1,none]) rfl ?_
 obtain ⟨p,ws,a,rfl,f1,hw,rfl,ha,q⟩:=h
 walk_at "rd"
 refine ⟨_,.inl (SqL.of f1),?_⟩
 have h8:=hw.few
 rw [qbo]
 refine ⟨by omega,by omega,?_⟩
 rw [Int.toNat_natCast]
 refine qdb (fun k=>a.testBit k) (fun k => .str (ws.getD k Str.empty)) (by omega) (fun k hk H3 s3 R R' r1 r2=>?_) fun H3 p3 s3 hp3=>?_
 · (try walk_at "rd")
   refine ⟨by omega,?_⟩
   cases b:a.testBit k with
   | false =>
     rw [if_neg (by rw [qiG,b];decide)]
     exact r2 b _ (Same.refl _)
   | true =>
     rw [if_pos (by rw [qiG,b])]
     have ek:ws[k]?=some (ws.getD k Str.empty):=by rw [List.getD_eq_getElem?_getD,List.getElem?_eq_getElem hk];rfl
     exact qbl (SqL.of (s3 _ _ f1)) (qhG ek) (r1 b _ (Same.refl _))
 rw [show ((List.range ws.length).filter fun k=>a.testBit k).map (fun k=>V.str (ws.getD k Str.empty))=sV (Tx.wds ws a) from by unfold Tx.wds;rw [←qq5 hw.few ha];exact qel _ _]
 have lw:(Tx.wds ws a).length≤8:=by
   unfold Tx.wds
   rw [List.length_map]
   exact Nat.le_trans (List.length_filter_le _ _) (by simp)
 have ly:∀y∈Tx.wds ws a,y.length≤8:=fun y hy=>(hw.wd y (Tx.wds_mem hw ha hy)).2.1
 generalize g3:upd H3 p3 _=G3
 have a3:=qaw g3
 have s3:=s3.trans (qaq g3 hp3)
 (try walk_at "rd")
 refine ⟨qaH (by simp),fun p4 hp4=>?_⟩
 generalize g4:upd G3 p4 _=G4
 have a4:=qaw g4
 have t4:=qaq g4 hp4
 have a3:=t4 _ _ a3
 have s4:=s3.trans t4
 refine qj1 (SqL.of a3) (SqL.of a4) (qdc _) rfl ?_
 by_cases h0:a=0
 · have e:Tx.wds ws a=[]:=by rw [h0];rfl
   rw [show Tx.sT ws a = "-" from if_pos h0] at q
   rw [e]
   exact ⟨true,rfl,qiH (q _ s4)⟩
 · have ne:=Tx.wds_ne hw ha h0
   rw [show Tx.sT ws a=_root_.PySem.Txt.join "+" (Tx.wds ws a) from if_neg h0] at q
   have e:qgi (sV (Tx.wds ws a)) []=false:=by
     rw [show ([]:List V)=sV [] from rfl,qhU]
     exact decide_eq_false ne
   rw [e]
   exact ⟨false,rfl,qeO ⟨rfl,_,p3,_,rfl,rfl,SqL.of a3,qbn (M:=8) (N:=8) ly lw (by rw [Tx.lit_plus];decide) (by decide),q _ s4⟩⟩
abbrev qbH:Stmt:=top 91
theorem qem:qao ["_law_words_here", "_law_family_here"] ["_law_words_here", "_law_family_here"] (qac qbH):=⟨rfl,rfl,rfl,by decide +kernel,rfl,by decide +kernel,by decide +kernel⟩
def qi2 (K:W.Frag):Sp:=sp2 fun x y H Q=>∃(p p2:Addr) (ws:List Str) (fs:List Nat),x = .ref p∧H p=some (.lst (sV ws))∧Tx.Wds ws∧y = .ref p2∧H p2=some (.lst (nV fs))∧(∀b∈fs,b<2^ws.length)∧fs.length≤70∧∀H',Same H H'→Q (.str (Tx.fT ws fs)) H'
theorem qhv {f:Addr} {fd:FuncData} (F:Fun K "_law_text" "_law_text" qbH f fd) (T:Txt mg) {f_06:Addr} {fd_06:FuncData} (C_06:Cal P w K mg base "_law_set_text" 1 ["_law_words_here", "_law_one"] (qiV K) f_06 fd_06):qa1 P w K mg base CX0 2 f fd ["_law_words_here", "_law_family_here"] (qi2 K):=by
 have sc:=qem
 refine F.ok qem (fun vs H Q E h=>by obtain ⟨_,_,rfl,_⟩:=h;rfl) (fun cdv A outer s H vs Q E hr h=>?_)
 obtain ⟨x0,x1,rfl,h⟩:=h
 refine ⟨_,(qad (qaz (qap (qaC (K:=K) rfl hr.units0) (pv 1) (qa2 qab) (qas _)) (qaf (qai qaj)) qal)
   (qaf (qai (qb8 PySem.F.plainAttrs_str PySem.F.slot_str_join PySem.F.type_str_join (qce (K:=K) rfl) qaj (qaa (qaY (N:=["_law_one", "_law_words_here"]) (nt:=1) (caps:=[0]) qaJ rfl (qaL (pv 1)) (fun _ _ _ _ _=>(qau (i:=0) (show List.Nodup (α:=Str) ["_law_one", "_law_words_here"] from by decide +kernel) rfl (Or.inl rfl))) qaO (fun _ _ _ _ _=>qaZ) (fun _ _ _ _ _=>(qah C_06 hr (by decide) (by rfl) (qaa (pv 1) (qaa (pv 0) qab))))) qab))))),?_⟩
 refine rdg (σ':=[some x0,some x1]) rfl ?_
 obtain ⟨p,p2,ws,fs,rfl,f1,hw,rfl,f2,hb,hl,q⟩:=h
 walk_at "rd"
 refine ⟨qaH (by simp),fun p4 hp4=>?_⟩
 generalize g4:upd H p4 _=G4
 have a4:=qaw g4
 have t4:=qaq g4 hp4
 have f2:=t4 _ _ f2
 have f1:=t4 _ _ f1
 refine qj1 (SqL.of f2) (SqL.of a4) (qk5 _) rfl ?_
 by_cases h0:fs=[]
 · rw [show Tx.fT ws fs = "none" from if_pos h0] at q
   subst h0
   exact ⟨true,rfl,qiH (q _ t4)⟩
 rw [show Tx.fT ws fs=_root_.PySem.Txt.join " " (fs.map (Tx.sT ws)) from if_neg h0] at q
 have e:qgi (nV fs) []=false:=by
   rw [show ([]:List V)=nV [] from rfl,qn6]
   exact decide_eq_false h0
 rw [e]
 refine ⟨false,rfl,qeO ⟨rfl,⟨_,SqL.of f2⟩,qer (fs:=fs) (fun _=>true) (fun b => .str (Tx.sT ws b)) (SqL.of f2) (by omega) (fun b hb' H2 s2 R R' r1 r2=>?_) fun H2 p3 s2 hp3=>?_⟩⟩
 · (try walk_at "rd")
   exact ⟨_,_,rfl,p,ws,b,rfl,s2 _ _ f1,hw,rfl,hb b hb',fun H3 s3=>r1 rfl _ s3⟩
 · rw [List.filter_eq_self.mpr fun _ _=>rfl,qel]
   refine ⟨_,p3,fs.map (Tx.sT ws),rfl,rfl,SqL.of qak,qbn (M:=72) (N:=70) (fun y hy=>?_) (by rw [List.length_map];exact hl) (by rw [Tx.lit_space];decide) (by decide),q _ ((t4.trans s2).trans (Same.new hp3))⟩
   obtain ⟨b,hb',rfl⟩:=List.mem_map.mp hy
   exact Tx.sT_len hw (hb b hb')
abbrev qcT:Stmt:=top 10
theorem qhl:qao ["many", "thing"] ["many", "thing"] (qac qcT):=⟨rfl,rfl,rfl,by decide +kernel,rfl,by decide +kernel,by decide +kernel⟩
def qpU:Sp:=sp2 fun m x H Q=>(∃(k:Nat) (i:Int),m = .int k∧x = .int i∧k≤8∧Q (.bl (decide (0≤i)&&decide (i<(2^k:Nat)))) H)∨∃t,qmi H x=some t∧t ≠ "int" ∧ Q (.bl false) H
theorem qkD {f:Addr} {fd:FuncData} (F:Fun K "is_set" "is_set" qcT f fd) (T:Txt mg) {f_31:Addr} {fd_31:FuncData} (C_31:Cal P w K mg base "is_whole" 1 ["thing"] qiF f_31 fd_31):qa1 P w K mg base CX0 2 f fd ["many", "thing"] qpU:=by
 have sc:=qhl
 refine F.ok qhl (fun vs H Q E h=>by obtain ⟨_,_,rfl,_⟩:=h;rfl) (fun cdv A outer s H vs Q E hr h=>?_)
 obtain ⟨x0,x1,rfl,h⟩:=h
 refine ⟨_,(qaf (qai (qjm (qah C_31 hr (by decide) (by rfl) (qaa (pv 1) qab)) (qjJ (qg6 qmC qmz qag (pv 1) (qar qc9 qag (pv 0))))))),?_⟩
 refine rdg (σ':=[some x0,some x1]) rfl ?_
 walk_at "rd"
 rcases h with ⟨k,i,rfl,rfl,hk8,q⟩ | ⟨t,hk,hne,q⟩
 · refine ⟨_,rfl, "int",rfl,true,rfl,qiH ?_⟩
   walk_at "rd"
   split
   · rename_i h0
     rw [decide_eq_true h0,Bool.true_and] at q
     refine ⟨qcg (by omega) (by omega) (by decide) (by decide),?_⟩
     rw [qcs]
     exact q
   · rename_i h0
     rw [decide_eq_false h0,Bool.false_and] at q
     exact q
 · exact ⟨_,rfl,t,hk,false,by rw [qnl hne],qeO q⟩
abbrev qbM:Stmt:=top 18
theorem qev:qao ["many", "thing", "before", "one"] ["many", "thing"] (qac qbM):=⟨rfl,rfl,rfl,by decide +kernel,rfl,by decide +kernel,by decide +kernel⟩
/-- how far the items are sets that rise,from b on -/
def qno (m:Nat):Int→List V→Bool
 | _,[]=>true
 | b,x::r=>match x with | .int i=>decide (0≤i)&&decide (i<(2^m:Nat))&&decide (b<i)&&qno m i r | _=>false
/-- the items are of kinds that are told -/
def Kd (H:Hp) (xs:List V):Prop:=∀x∈xs,∃t,qmi H x=some t
theorem qqN {H:Hp} {x:V} {t:String} (h:qmi H x=some t) (hn:∀i,x ≠ .int i):t ≠ "int" := by
 intro e
 subst e
 cases x with
 | int i=>exact hn i rfl
 | non=>exact absurd (Option.some.inj h) (by decide)
 | bl b=>exact absurd (Option.some.inj h) (by decide)
 | str z=>exact absurd (Option.some.inj h) (by decide)
 | byt z=>cases h
 | flt z=>cases h
 | ty z=>cases h
 | ref a =>
   unfold qmi at h
   dsimp only at h
   split at h<;>first | exact absurd (Option.some.inj h) (by decide) | cases h
theorem qpG {m:Nat} {b:Int} {x:V} {r:List V} (hn:∀i,x ≠ .int i):qno m b (x::r)=false:=by
 cases x with
 | int i=>exact absurd rfl (hn i)
 | _=>rfl
theorem qnx {t:String} (h:t ≠ "list"):qmy t "list" = false:=by
 unfold qmy
 rw [show (t == "list")=false from beq_eq_false_iff_ne.mpr h]
 cases (t == "bool")<;>rfl
def qiv (K:W.Frag):Sp:=sp2 fun x y H Q=>∃m:Nat,x = .int m∧m≤8∧((∃(p:Addr) (xs:List V),y = .ref p∧H p=some (.lst xs)∧xs.length≤1000∧Kd H xs∧Q (.bl (decide (xs.length≤70)&&qno m (-1) xs)) H)∨∃t,qmi H y=some t∧t ≠ "list" ∧ Q (.bl false) H)
theorem qhF {f:Addr} {fd:FuncData} (F:Fun K "is_family" "is_family" qbM f fd) (T:Txt mg) {f_43:Addr} {fd_43:FuncData} (C_43:Cal P w K mg base "is_set" 2 ["many", "thing"] qpU f_43 fd_43):qa1 P w K mg base CX0 3 f fd ["many", "thing"] (qiv K):=by
 have sc:=qev
 refine F.ok qev (fun vs H Q E h=>by obtain ⟨_,_,rfl,_⟩:=h;rfl) (fun cdv A outer s H vs Q E hr h=>?_)
 obtain ⟨x0,x1,rfl,h⟩:=h
 refine ⟨_,(qad (qaz (PW.pt (qhJ (qbk (qa3 (qaA qca (by rfl) T.n_isinstance PyProof.Rows.boot_isinstance (qaa (pv 1) (qaa (qe7 (v := .ty "list") (by rfl) T.n_list PyProof.Rows.boot_list rfl) qab))))) (qfG (qap qng (qaA (qaT (K:=K) rfl) (by rfl) T.n_len PySem.boot_len (qaa (pv 1) qab)) (qeQ T.c_MOST_SETS (by rfl)) (qas _))))) (qaf (qai qcN)) qal)
   (qad (qay (i:=2) sc.nd rfl (Or.inl rfl) (qpL qqP qag))
   (qad (qbG PassesOwn.never rfl (qaL (pv 1)) (qau (i:=3) sc.nd rfl (Or.inl rfl)) (qad (qaz (PW.pt (qhJ (qbk (qa3 (qah C_43 hr (by decide) (by rfl) (qaa (pv 0) (qaa (pv 3) qab))))) (qfG (qap qmC (pv 3) (pv 2) (qas _))))) (qaf (qai qcN)) qal)
   (qaf (qay (i:=2) sc.nd rfl (Or.inl rfl) (pv 3)))))
   (qaf (qai qcN))))),?_⟩
 refine rdg (σ':=[some x0,some x1,none,none]) rfl ?_
 obtain ⟨m,rfl,hm,h⟩:=h
 walk_at "rd"
 rcases h with ⟨p,xs,rfl,f1,hl,kd,q⟩ | ⟨t,hk,hne,q⟩
 · refine ⟨_, "list",⟨rfl,rfl⟩, "list",qrD f1,by decide,?_⟩
   rw [if_neg (by decide)]
   refine ⟨p,rfl,_,.inl (SqL.of f1),?_⟩
   (try walk_at "rd")
   by_cases h70:xs.length≤70
   · rw [if_neg (by omega)]
     rw [decide_eq_true h70,Bool.true_and] at q
     refine ⟨⟨_,SqL.of f1⟩,qhV (xs:=xs) (fun i σ H'=>∃(b:Int) (v:Option V),σ=[some (.int m),some (.ref p),some (.int b),v]∧H'=H∧qno m (-1) xs=qno m b (xs.drop i)) ⟨-1,none,rfl,rfl,rfl⟩ (fun i σ H' _ ⟨_,_,_,e,_⟩=>e▸SqL.of f1) ?_ ?_⟩
     · rintro i x σ H' hx ⟨b,v,rfl,rfl,ef⟩ N hN
       have hi:=List.getElem?_eq_some_iff.mp hx
       have ed:xs.drop i=x::xs.drop (i+1):=by rw [List.drop_eq_getElem_cons hi.1,hi.2]
       rw [ed] at ef
       obtain ⟨t,ht⟩:=kd x (List.mem_of_getElem? hx)
       (try walk_at "rd")
       by_cases hz:∃z,x = .int z
       · obtain ⟨z,rfl⟩:=hz
         refine ⟨_,_,rfl,.inl ⟨m,z,rfl,rfl,hm,?_⟩⟩
         have ef':qno m (-1) xs=(decide (0≤z)&&decide (z<(2^m:Nat))&&decide (b<z)&&qno m z (xs.drop (i+1))):=ef
         (try walk_at "rd")
         by_cases hs:(decide (0≤z)&&decide (z<(2^m:Nat)))=false
         · rw [if_pos hs]
           rw [ef',hs,Bool.false_and,Bool.false_and] at q
           exact q
         · rw [if_neg hs]
           rw [(Bool.not_eq_false _).mp hs,Bool.true_and] at ef'
           by_cases hb:b<z
           · rw [if_neg (by omega)]
             rw [decide_eq_true hb,Bool.true_and] at ef'
             exact hN _ _ ⟨z,_,rfl,rfl,ef'⟩
           · rw [if_pos (by omega)]
             rw [ef',decide_eq_false hb,Bool.false_and] at q
             exact q
       · have hz':∀i,x ≠ .int i:=fun i e=>hz ⟨i,e⟩
         refine ⟨_,_,rfl,.inr ⟨t,ht,qqN ht hz',?_⟩⟩
         (try walk_at "rd")
         rw [ef,qpG hz'] at q
         exact q
     · rintro σ H' ⟨b,v,rfl,rfl,ef⟩
       rw [List.drop_length] at ef
       rw [ef] at q
       (try walk_at "rd")
       exact q
   · rw [if_pos (by omega)]
     rw [decide_eq_false h70,Bool.false_and] at q
     exact q
 · refine ⟨_, "list",⟨rfl,rfl⟩,t,hk,by decide,?_⟩
   rw [qnx hne]
   exact q
abbrev qb5:Stmt:=top 11
theorem qfp:qao ["one"] ["one"] (qac qb5):=⟨rfl,rfl,rfl,by decide +kernel,rfl,by decide +kernel,by decide +kernel⟩
def qdx:Sp:=sp1 fun x H Q=>∃a:Nat,x = .int a∧a<256∧∀H' p,Same H H'→H' p=none→Q (.ref p) (upd H' p (.lst (nV (Fam.nms 8 a))))
theorem qnI:∀a:Nat,a<256→(List.range (Builtin.Int.intBits (a:Int))).filter (fun k=>a.testBit k)=Fam.nms 8 a:=by decide +kernel
theorem qpW:∀a:Nat,a<256→Builtin.Int.intBits (a:Int)≤8:=by decide +kernel
theorem qiB {f:Addr} {fd:FuncData} (F:Fun K "names_in" "names_in" qb5 f fd) (T:Txt mg)  : qa1 P w K mg base CX0 1 f fd ["one"] qdx:=by
 have sc:=qfp
 refine F.ok qfp (fun vs H Q E h=>by obtain ⟨_,rfl,_⟩:=h;rfl) (fun cdv A outer s H vs Q E hr h=>?_)
 obtain ⟨x0,rfl,h⟩:=h
 refine ⟨_,(qaf (qai (qaY (N:=["k", "one"]) (nt:=1) (caps:=[0]) qaJ rfl (qaQ (by rfl) T.n_range (qaa (qru PySem.F.plainAttrs_int PySem.F.slot_int_bit_length PySem.F.type_int_bit_length qln (pv 0)) qab)) (fun _ _ _ _ _=>(qau (i:=0) (show List.Nodup (α:=Str) ["k", "one"] from by decide +kernel) rfl (Or.inl rfl))) qaO (fun _ _ _ _ _=>(qeV (qap (qaC (K:=K) rfl hr.units0) (qar qdt (qar qkO (pv 1) (pv 0)) qag) qag (qas _)))) (fun _ _ _ _ _=>(pv 0))))),?_⟩
 refine rdg (σ':=[some x0]) rfl ?_
 obtain ⟨a,rfl,ha,q⟩:=h
 walk_at "rd"
 have hb:=qpW a ha
 refine ⟨by simp [tyV],by omega,by omega,?_⟩
 rw [Int.toNat_natCast]
 refine qdb (fun k=>a.testBit k) (fun k => .int (k:Nat)) (by omega) (fun k hk H1 sm R R' r1 r2=>?_) fun H1 p sm hp=>?_
 · walk_at "rd"
   refine ⟨by omega,qgn qiG (fun hc=>r1 hc _ (Same.refl _)) fun hc=>r2 hc _ (Same.refl _)⟩
 · rw [qjE,qnI a ha]
   exact q H1 p sm hp
abbrev qcY:Stmt:=top 12
theorem qhY:qao ["names", "one", "k"] ["names"] (qac qcY):=⟨rfl,rfl,rfl,by decide +kernel,rfl,by decide +kernel,by decide +kernel⟩
def qip (K:W.Frag):Sp:=sp1 fun x H Q=>∃p fs,x = .ref p∧SqL K H p (nV fs)∧(∀k∈fs,k<8)∧Q (.int (Fam.ofN fs:Nat)) H
theorem qms {fs:List Nat} {i a:Nat} (h:fs[i]?=some a):fs.take (i+1)=fs.take i++[a]:=by rw [List.take_add_one,h];rfl
theorem qjh (L:List Nat) (a:Nat):Fam.ofN (L++[a])=Fam.ofN L|||2^a:=by unfold Fam.ofN;rw [List.foldl_append];rfl
theorem qkS {f:Addr} {fd:FuncData} (F:Fun K "set_of" "set_of" qcY f fd) (T:Txt mg)  : qa1 P w K mg base CX0 1 f fd ["names"] (qip K):=by
 have sc:=qhY
 refine F.ok qhY (fun vs H Q E h=>by obtain ⟨_,rfl,_⟩:=h;rfl) (fun cdv A outer s H vs Q E hr h=>?_)
 obtain ⟨x0,rfl,h⟩:=h
 refine ⟨_,(qad (qay (i:=1) sc.nd rfl (Or.inl rfl) qag)
   (qad (qbG PassesOwn.never rfl (qaL (pv 0)) (qau (i:=2) sc.nd rfl (Or.inl rfl)) (qaf (qay (i:=1) sc.nd rfl (Or.inl rfl) (qar qpa (pv 1) (qar qc9 qag (pv 2))))))
   (qaf (qai (pv 1))))),?_⟩
 refine rdg (σ':=[some x0,none,none]) rfl ?_
 obtain ⟨p,fs,rfl,hq,hb,q⟩:=h
 walk_at "rd"
 refine ⟨⟨_,hq⟩,qpC (xs:=nV fs) (fun i σ H'=>∃v,σ=[some (.ref p),some (.int (Fam.ofN (fs.take i):Nat)),v]∧H'=H) ⟨none,rfl,rfl⟩ (fun i σ H' _ ⟨v,_,e⟩=>e▸hq) ?_ ?_⟩
 · rintro i x σ H' hx ⟨v,rfl,rfl⟩
   obtain ⟨a,ha,rfl⟩:=qoa hx
   have h8:=hb a (List.mem_of_getElem? ha)
   walk_at "rd"
   refine ⟨qcg (by omega) (by omega) (by decide) (by decide),?_⟩
   rw [qms ha,qjh,←qkQ,qcs]
 · rintro σ H' ⟨v,rfl,rfl⟩
   rw [qbV,List.take_length]
   exact ⟨_,rfl,q⟩
abbrev qc2:Stmt:=top 33
theorem qhw:qao ["text", "sign"] ["text", "sign"] (qac qc2):=⟨rfl,rfl,rfl,by decide +kernel,rfl,by decide +kernel,by decide +kernel⟩
def qdM:Sp:=sp2 fun x y H Q=>∃z s:Str,x = .str z∧y = .str s∧(s.length==0)=false∧z.length≤10000∧∀p H',H p=none→Same H H'→H' p=some (.lst (sV (Txt.split z s)))→Q (.ref p) H'
theorem qlZ {f:Addr} {fd:FuncData} (F:Fun K "parted" "parted" qc2 f fd) (T:Txt mg)  : qa1 P w K mg base CX0 1 f fd ["text", "sign"] qdM:=by
 have sc:=qhw
 refine F.ok qhw (fun vs H Q E h=>by obtain ⟨_,_,rfl,_⟩:=h;rfl) (fun cdv A outer s H vs Q E hr h=>?_)
 obtain ⟨x0,x1,rfl,h⟩:=h
 refine ⟨_,(qad (qaz (qbk (qa3 (qaA qca (by rfl) T.n_isinstance PyProof.Rows.boot_isinstance (qaa (pv 0) (qaa (qe7 (v := .ty "str") (by rfl) T.n_str PyProof.Rows.boot_str rfl) qab))))) (qaf qbs) qal)
   (qaf (qai (qb8 PySem.F.plainAttrs_str PySem.F.slot_str_split PySem.F.type_str_split qdE (pv 0) (qaa (pv 1) qab))))),?_⟩
 refine rdg (σ':=[some x0,some x1]) rfl ?_
 obtain ⟨z,s,rfl,rfl,hs,hz,q⟩:=h
 walk_at "rd"
 refine ⟨_,_,⟨rfl,rfl⟩, "str",rfl,by decide,?_⟩
 rw [if_neg (by decide)]
 exact ⟨rfl,z,s,rfl,rfl,hs,by omega,fun l hl=>q l _ hl (Same.new hl) qak⟩
abbrev qcl:Stmt:=top 32
theorem qf9:qao ["text"] ["text"] (qac qcl):=⟨rfl,rfl,rfl,by decide +kernel,rfl,by decide +kernel,by decide +kernel⟩
def qeJ:Sp:=sp1 fun x H Q=>∃z:Str,x = .str z∧Tx.Wd z∧∀H',Same H H'→Q (.bl true) H'
theorem qj0 {f:Addr} {fd:FuncData} (F:Fun K "is_word" "is_word" qcl f fd) (T:Txt mg)  : qa1 P w K mg base CX0 1 f fd ["text"] qeJ:=by
 have sc:=qf9
 refine F.ok qf9 (fun vs H Q E h=>by obtain ⟨_,rfl,_⟩:=h;rfl) (fun cdv A outer s H vs Q E hr h=>?_)
 obtain ⟨x0,rfl,h⟩:=h
 refine ⟨_,(qaf (qai (qjm (qg6 qmC qmC qag (qaA qhf (by rfl) T.n_len PySem.boot_len (qaa (pv 0) qab)) (qeQ T.c_MOST_LETTERS (by rfl))) (qjJ (qaA (qnS (K:=K) rfl rfl) (by rfl) T.n_all PyProof.Rows.boot_all (qaa (qaY (N:=["sign"]) (nt:=1) (caps:=[]) qaJ rfl (qqq (pv 0)) (fun _ _ _ _ _=>(qau (i:=0) (show List.Nodup (α:=Str) ["sign"] from by decide +kernel) rfl (Or.inl rfl))) qaO (fun _ _ _ _ _=>qaZ) (fun _ _ _ _ _=>(qg6 qh0 qh0 qaj (pv 0) qaj))) qab)))))),?_⟩
 refine rdg (σ':=[some x0]) rfl ?_
 obtain ⟨z,rfl,hz,q⟩:=h
 walk_at "rd"
 have e24:sizeLine=16777216:=sizeLine_eq
 obtain ⟨h1,h8,hc⟩:=id hz
 refine ⟨by omega,?_⟩
 rw [if_pos (by omega),if_pos (by omega)]
 refine ⟨qnD hz,qqZ (fun _=>true) (fun _ => .bl true) (by omega) (fun x hx H1 s1 R R' r1 r2=>?_) fun H1 p s1 hp=>?_⟩
 · obtain ⟨c1,c2⟩:=hc x hx
   (try walk_at "rd")
   have b1:=qte c1
   have b2:(!decide (("z" : Str).cps.toList < [x]))=true:=qtc c2
   refine ⟨true,by simpa using b1,qiH ?_⟩
   rw [b2]
   exact r1 rfl _ (Same.refl _)
 · refine ⟨p,(sgs z).map fun _=>true,rfl,SqL.of ?_,?_⟩
   · rw [qak,List.filter_eq_self.mpr fun _ _=>rfl,List.map_map]
     rfl
   · rw [show ((sgs z).map fun _=>true).all id=true by simp]
     exact q _ (s1.trans (Same.new hp))
abbrev qbA:Stmt:=top 26
theorem qdv:qao ["text", "words", "word"] ["text"] (qac qbA):=⟨rfl,rfl,rfl,by decide +kernel,rfl,by decide +kernel,by decide +kernel⟩
def qdm (K:W.Frag):Sp:=sp1 fun x H Q=>∃ws:List Str,x = .str (Txt.join " " ws)∧Tx.Wds ws∧∀p H',H p=none→Same H H'→H' p=some (.lst (sV ws))→Q (.ref p) H'
theorem qgs {f:Addr} {fd:FuncData} (F:Fun K "read_names" "read_names" qbA f fd) (T:Txt mg) {f_45:Addr} {fd_45:FuncData} (C_45:Cal P w K mg base "parted" 1 ["text", "sign"] qdM f_45 fd_45) {f_42:Addr} {fd_42:FuncData} (C_42:Cal P w K mg base "is_word" 1 ["text"] qeJ f_42 fd_42):qa1 P w K mg base CX0 2 f fd ["text"] (qdm K):=by
 have sc:=qdv
 refine F.ok qdv (fun vs H Q E h=>by obtain ⟨_,rfl,_⟩:=h;rfl) (fun cdv A outer s H vs Q E hr h=>?_)
 obtain ⟨x0,rfl,h⟩:=h
 refine ⟨_,(qad (qay (i:=1) sc.nd rfl (Or.inl rfl) (qah C_45 hr (by decide) (by rfl) (qaa (pv 0) (qaa qaj qab))))
   (qad (qaz (qap (qaC (K:=K) rfl hr.units0) (pv 1) (qa2 (qaa qaj qab)) (qas _)) (qaf (qai (qa2 qab))) qal)
   (qad (qaz (PW.pt (qhJ (qap qng (qaA (qaT (K:=K) rfl) (by rfl) T.n_len PySem.boot_len (qaa (pv 1) qab)) (qeQ T.c_MOST_NAMES (by rfl)) (qas _)) (qfG (qap qmz (qaA (qlI (P:=P) (w:=w) rfl rfl) (by rfl) T.n_len PySem.boot_len (qaa (qcn (qmb (P:=P) (w:=w) (K:=K) rfl rfl rfl rfl) (by rfl) T.n_set PyProof.Rows.boot_set (qaa (pv 1) qab)) qab)) (qaA (qaT (K:=K) rfl) (by rfl) T.n_len PySem.boot_len (qaa (pv 1) qab)) (qas _))))) (qaf qbs) qal)
   (qad (qbG PassesOwn.never rfl (qaL (pv 1)) (qau (i:=2) sc.nd rfl (Or.inl rfl)) (qaf (qaz (PW.pt (qhJ (qbk (qa3 (qah C_42 hr (by decide) (by rfl) (qaa (pv 2) qab)))) (qfG (qap (qaC (K:=K) rfl hr.units0) (pv 2) (qcQ T.c_NO_SETS (by rfl)) (qas _))))) (qaf qbs) qal)))
   (qaf (qai (pv 1))))))),?_⟩
 refine rdg (σ':=[some x0,none,none]) rfl ?_
 obtain ⟨ws,rfl,hw,q⟩:=h
 walk_at "rd"
 by_cases h0:ws=[]
 · subst h0
   refine ⟨_,_,rfl,_,_,rfl,rfl,by rw [Tx.lit_space];rfl,by decide +kernel,fun p1 G1 hp1 s1 a1=>?_⟩
   rw [show Txt.split (Txt.join (" " : Str) []) " " = [("" : Str)] from by decide +kernel] at a1
   (try walk_at "rd")
   refine ⟨qaH (by simp),fun p2 hp2=>?_⟩
   generalize g2:upd G1 p2 _=G2
   have a2:G2 p2=some (.lst (sV [("" : Str)])):=qaw g2
   have s2:=qaq g2 hp2
   refine qj1 (SqL.of (s2 _ _ a1)) (SqL.of a2) (qdc _) (qdc _) ?_
   rw [qhU]
   refine ⟨true,by simp,qiH ⟨qaH (by simp),fun p3 hp3=>?_⟩⟩
   have s12:=s1.trans s2
   exact q _ _ (qaB s12 hp3) (s12.trans (Same.new hp3)) qak
 have hn:0<ws.length:=List.length_pos_iff.mpr h0
 have h8:=hw.few
 have hL:(Txt.join (" " : Str) ws).length≤100:=by
   rw [←Tx.len_sg,Tx.lit_space,Tx.txt_join]
   refine Nat.le_trans (Tx.jn_len (M:=8) fun x hx=>?_) (Nat.le_trans (Nat.mul_le_mul_right 9 (by rw [List.length_map];exact h8)) (by decide))
   obtain ⟨w,hw',rfl⟩:=List.mem_map.mp hx
   rw [Tx.len_sg]
   exact (hw.wd w hw').2.1
 refine ⟨_,_,rfl,_,_,rfl,rfl,by rw [Tx.lit_space];rfl,by omega,fun p1 G1 hp1 s1 a1=>?_⟩
 rw [show Txt.split (Txt.join (" " : Str) ws) " " = ws from by rw [Tx.lit_space];exact Tx.split_join h0 fun w hw'=>(hw.wd w hw').free (by decide)] at a1
 (try walk_at "rd")
 refine ⟨qaH (by simp),fun p2 hp2=>?_⟩
 generalize g2:upd G1 p2 _=G2
 have a2:G2 p2=some (.lst (sV [("" : Str)])):=qaw g2
 have s2:=qaq g2 hp2
 have a1':=s2 _ _ a1
 refine qj1 (SqL.of a1') (SqL.of a2) (qdc _) (qdc _) ?_
 rw [qhU]
 have ne:ws≠[("" : Str)]:=fun z=>by
   have hm:=hw.wd "" (by rw [z];exact List.mem_cons_self)
   have:=hm.1
   rw [Tx.lit_empty] at this
   exact absurd this (by decide)
 refine ⟨false,by simpa using ne,qeO ?_⟩
 refine ⟨_,.inl (SqL.of a1'),?_⟩
 rw [qbo,if_neg (by omega)]
 refine ⟨p1,ws,rfl,SqL.of a1',by omega,fun p3 hp3=>?_⟩
 rw [qqE hw.nd]
 generalize g3:upd G2 p3 _=G3
 have a3:=qaw g3
 have s3:=qaq g3 hp3
 have a1'':=s3 _ _ a1'
 refine ⟨p3,_,rfl,a3,by omega,?_⟩
 refine ⟨_,.inl (SqL.of a1''),?_⟩
 (try walk_at "rd")
 rw [qbo,if_neg (by omega)]
 refine ⟨⟨_,SqL.of a1''⟩,qhV (xs:=sV ws) (fun i σ H'=>∃v,σ=[some (.str (Txt.join (" " : Str) ws)),some (.ref p1),v]∧Same G3 H') ⟨none,rfl,Same.refl _⟩ (fun i σ H' _ ⟨_,_,e⟩=>SqL.of (e _ _ a1'')) ?_ ?_⟩
 · rintro i x σ H4 hx ⟨v,rfl,s4⟩ N hN
   obtain ⟨w,hw',rfl⟩:=List.mem_map.mp (List.mem_of_getElem? hx)
   (try walk_at "rd")
   refine ⟨_,rfl,w,rfl,hw.wd w hw',fun H5 s5=>⟨true,rfl,?_⟩⟩
   rw [if_neg (by decide)]
   have nn:w≠("none" : Str):=fun z=>hw.no (by rw [←z];exact hw')
   rw [if_neg nn]
   exact hN _ _ ⟨_,rfl,s4.trans s5⟩
 · rintro σ H4 ⟨v,rfl,s4⟩
   (try walk_at "rd")
   exact q p1 _ hp1 (((s1.trans s2).trans s3).trans s4) (s4 _ _ a1'')
abbrev qbK:Stmt:=top 31
theorem qew:qao ["words", "word"] ["words", "word"] (qac qbK):=⟨rfl,rfl,rfl,by decide +kernel,rfl,by decide +kernel,by decide +kernel⟩
def qcU (K:W.Frag):Sp:=sp2 fun x y H Q=>∃(p:Addr) (ws:List Str) (w:Str),x = .ref p∧H p=some (.lst (sV ws))∧ws.length≤8∧y = .str w∧w∈ws∧Q (.int (ws.idxOf w:Nat)) H
theorem qh9 {f:Addr} {fd:FuncData} (F:Fun K "read_name" "read_name" qbK f fd) (T:Txt mg)  : qa1 P w K mg base CX0 1 f fd ["words", "word"] (qcU K):=by
 have sc:=qew
 refine F.ok qew (fun vs H Q E h=>by obtain ⟨_,_,rfl,_⟩:=h;rfl) (fun cdv A outer s H vs Q E hr h=>?_)
 obtain ⟨x0,x1,rfl,h⟩:=h
 refine ⟨_,(qad (qaz (qap (qlk (K:=K) rfl) (pv 1) (pv 0) (by with_unfolding_all rfl)) (qaf qbs) qal)
   (qaf (qai (qq2 (K:=K) rfl PySem.F.plainAttrs_list PySem.F.slot_list_index PySem.F.type_list_index ql6 (pv 0) (qaa (pv 1) qab))))),?_⟩
 refine rdg (σ':=[some x0,some x1]) rfl ?_
 obtain ⟨p,ws,w,rfl,f1,hl,rfl,hw,q⟩:=h
 walk_at "rd"
 refine ⟨_,.inl (SqL.of f1),rfl,qdc _,false,by rw [qsB];simpa using hw,?_⟩
 rw [if_neg (by decide)]
 exact ⟨.inl ⟨rfl,_,SqL.of f1⟩,p,ws,w,rfl,rfl,f1,hw,by omega,q⟩
abbrev qbX:Stmt:=top 27
theorem qfM:qao ["words", "one"] ["words", "one"] (qac qbX):=⟨rfl,rfl,rfl,by decide +kernel,rfl,by decide +kernel,by decide +kernel⟩
def qcE (K:W.Frag):Sp:=sp2 fun x y H Q=>∃(p:Addr) (ws:List Str) (a:Nat),x = .ref p∧H p=some (.lst (sV ws))∧Tx.Wds ws∧y = .int (a:Nat)∧a<2^ws.length∧∀H',Same H H'→Q (.str (Tx.sT ws a)) H'
theorem qiK {f:Addr} {fd:FuncData} (F:Fun K "show_set" "show_set" qbX f fd) (T:Txt mg) {f_33:Addr} {fd_33:FuncData} (C_33:Cal P w K mg base "names_in" 1 ["one"] qdx f_33 fd_33):qa1 P w K mg base CX0 2 f fd ["words", "one"] (qcE K):=by
 have sc:=qfM
 refine F.ok qfM (fun vs H Q E h=>by obtain ⟨_,_,rfl,_⟩:=h;rfl) (fun cdv A outer s H vs Q E hr h=>?_)
 obtain ⟨x0,x1,rfl,h⟩:=h
 refine ⟨_,(qad (qaz (qap (qaC (K:=K) rfl hr.units0) (pv 1) qag (qas _)) (qaf (qai (qcQ T.c_NO_NAMES (by rfl)))) qal)
   (qaf (qai (qb8 PySem.F.plainAttrs_str PySem.F.slot_str_join PySem.F.type_str_join (qce (K:=K) rfl) qaj (qaa (qaY (N:=["k", "words"]) (nt:=1) (caps:=[0]) qaJ rfl (qaL (qah C_33 hr (by decide) (by rfl) (qaa (pv 1) qab))) (fun _ _ _ _ _=>(qau (i:=0) (show List.Nodup (α:=Str) ["k", "words"] from by decide +kernel) rfl (Or.inl rfl))) qaO (fun _ _ _ _ _=>qaZ) (fun _ _ _ _ _=>(qba (qcB (K:=K) rfl) (pv 1) (pv 0) (fun _ _=>rfl)))) qab))))),?_⟩
 refine rdg (σ':=[some x0,some x1]) rfl ?_
 obtain ⟨p,ws,a,rfl,f1,hw,rfl,ha,q⟩:=h
 walk_at "rd"
 by_cases h0:a=0
 · rw [if_pos (by omega)]
   rw [show Tx.sT ws a = "-" from if_pos h0] at q
   exact q _ (Same.refl _)
 rw [if_neg (by omega)]
 rw [show Tx.sT ws a=Txt.join "+" (Tx.wds ws a) from if_neg h0] at q
 refine ⟨rfl,_,rfl,a,rfl,Tx.lt256 hw ha,fun H1 p1 s1 hp1=>?_⟩
 generalize g1:upd H1 p1 _=G1
 have a1:=qaw g1
 have s1:=s1.trans (qaq g1 hp1)
 have l8:(Fam.nms 8 a).length≤8:=Nat.le_trans (List.length_filter_le _ _) (by simp)
 refine ⟨p1,rfl,⟨_,SqL.of a1⟩,qer (fs:=Fam.nms 8 a) (fun _=>true) (fun k => .str (ws.getD k Str.empty)) (SqL.of a1) (by omega) (fun k hk H2 s2 R R' r1 r2=>?_) fun H2 p2 s2 hp2=>?_⟩
 · (try walk_at "rd")
   have hl:=Tx.nms_lt ha hk
   exact qbl (SqL.of (s2 _ _ (s1 _ _ f1))) (qhG (w:=ws.getD k Str.empty) (by rw [List.getD_eq_getElem?_getD,List.getElem?_eq_getElem hl];rfl)) (r1 rfl _ (Same.refl _))
 · rw [List.filter_eq_self.mpr fun _ _=>rfl]
   have ew:(Fam.nms 8 a).map (fun k=>V.str (ws.getD k Str.empty))=sV (Tx.wds ws a):=by
     show _=List.map V.str (List.map _ _)
     rw [List.map_map]
     rfl
   rw [ew]
   refine ⟨_,p2,Tx.wds ws a,rfl,rfl,SqL.of qak,qbn (M:=8) (N:=8) (fun y hy=>(hw.wd y (Tx.wds_mem hw ha hy)).2.1) (by unfold Tx.wds;rw [List.length_map];exact l8) (by rw [Tx.lit_plus];decide) (by decide),q _ ((s1.trans s2).trans (Same.new hp2))⟩
abbrev qbg:Stmt:=top 28
theorem qde:qao ["words", "family"] ["words", "family"] (qac qbg):=⟨rfl,rfl,rfl,by decide +kernel,rfl,by decide +kernel,by decide +kernel⟩
def qfe (K:W.Frag):Sp:=sp2 fun x y H Q=>∃(p p2:Addr) (ws:List Str) (fs:List Nat),x = .ref p∧H p=some (.lst (sV ws))∧Tx.Wds ws∧y = .ref p2∧H p2=some (.lst (nV fs))∧(∀b∈fs,b<2^ws.length)∧fs.length≤70∧∀H',Same H H'→Q (.str (Tx.fT ws fs)) H'
theorem qf1 {f:Addr} {fd:FuncData} (F:Fun K "show_family" "show_family" qbg f fd) (T:Txt mg) {f_34:Addr} {fd_34:FuncData} (C_34:Cal P w K mg base "show_set" 2 ["words", "one"] (qcE K) f_34 fd_34):qa1 P w K mg base CX0 3 f fd ["words", "family"] (qfe K):=by
 have sc:=qde
 refine F.ok qde (fun vs H Q E h=>by obtain ⟨_,_,rfl,_⟩:=h;rfl) (fun cdv A outer s H vs Q E hr h=>?_)
 obtain ⟨x0,x1,rfl,h⟩:=h
 refine ⟨_,(qad (qaz (qap (qaC (K:=K) rfl hr.units0) (qaA (qaT (K:=K) rfl) (by rfl) T.n_len PySem.boot_len (qaa (pv 1) qab)) qag (qas _)) (qaf (qai (qcQ T.c_NO_SETS (by rfl)))) qal)
   (qaf (qai (qb8 PySem.F.plainAttrs_str PySem.F.slot_str_join PySem.F.type_str_join (qce (K:=K) rfl) qaj (qaa (qaY (N:=["one", "words"]) (nt:=1) (caps:=[0]) qaJ rfl (qaL (pv 1)) (fun _ _ _ _ _=>(qau (i:=0) (show List.Nodup (α:=Str) ["one", "words"] from by decide +kernel) rfl (Or.inl rfl))) qaO (fun _ _ _ _ _=>qaZ) (fun _ _ _ _ _=>(qah C_34 hr (by decide) (by rfl) (qaa (pv 1) (qaa (pv 0) qab))))) qab))))),?_⟩
 refine rdg (σ':=[some x0,some x1]) rfl ?_
 obtain ⟨p,p2,ws,fs,rfl,f1,hw,rfl,f2,hb,hl,q⟩:=h
 walk_at "rd"
 refine ⟨_,.inl (SqL.of f2),?_⟩
 rw [qbV]
 by_cases h0:fs=[]
 · rw [if_pos (by rw [h0];rfl)]
   rw [show Tx.fT ws fs = "none" from if_pos h0] at q
   exact q _ (Same.refl _)
 have hn:0<fs.length:=List.length_pos_iff.mpr h0
 rw [if_neg (by omega)]
 rw [show Tx.fT ws fs=Txt.join " " (fs.map (Tx.sT ws)) from if_neg h0] at q
 refine ⟨rfl,⟨_,SqL.of f2⟩,qer (fs:=fs) (fun _=>true) (fun b => .str (Tx.sT ws b)) (SqL.of f2) (by omega) (fun b hb' H2 s2 R R' r1 r2=>?_) fun H2 p3 s2 hp3=>?_⟩
 · (try walk_at "rd")
   exact ⟨_,_,rfl,p,ws,b,rfl,s2 _ _ f1,hw,rfl,hb b hb',fun H3 s3=>r1 rfl _ s3⟩
 · rw [List.filter_eq_self.mpr fun _ _=>rfl]
   have ew:fs.map (fun b=>V.str (Tx.sT ws b))=sV (fs.map (Tx.sT ws)):=by
     show _=List.map V.str (List.map _ _)
     rw [List.map_map]
     rfl
   rw [ew]
   refine ⟨_,p3,fs.map (Tx.sT ws),rfl,rfl,SqL.of qak,qbn (M:=72) (N:=70) (fun y hy=>?_) (by rw [List.length_map];exact hl) (by rw [Tx.lit_space];decide) (by decide),q _ (s2.trans (Same.new hp3))⟩
   obtain ⟨b,hb',rfl⟩:=List.mem_map.mp hy
   exact Tx.sT_len hw (hb b hb')
abbrev qbY:Stmt:=top 29
theorem qfh:qao ["words", "text", "parts", "names"] ["words", "text"] (qac qbY):=⟨rfl,rfl,rfl,by decide +kernel,rfl,by decide +kernel,by decide +kernel⟩
def qdH (K:W.Frag):Sp:=sp2 fun x y H Q=>∃(p:Addr) (ws:List Str) (a:Nat),x = .ref p∧H p=some (.lst (sV ws))∧Tx.Wds ws∧y = .str (Tx.sT ws a)∧a<2^ws.length∧∀H',Same H H'→Q (.int (a:Nat)) H'
theorem qiM {f:Addr} {fd:FuncData} (F:Fun K "read_set" "read_set" qbY f fd) (T:Txt mg) {f_45:Addr} {fd_45:FuncData} (C_45:Cal P w K mg base "parted" 1 ["text", "sign"] qdM f_45 fd_45) {f_44:Addr} {fd_44:FuncData} (C_44:Cal P w K mg base "set_of" 1 ["names"] (qip K) f_44 fd_44) {f_28:Addr} {fd_28:FuncData} (C_28:Cal P w K mg base "read_name" 1 ["words", "word"] (qcU K) f_28 fd_28):qa1 P w K mg base CX0 2 f fd ["words", "text"] (qdH K):=by
 have sc:=qfh
 refine F.ok qfh (fun vs H Q E h=>by obtain ⟨_,_,rfl,_⟩:=h;rfl) (fun cdv A outer s H vs Q E hr h=>?_)
 obtain ⟨x0,x1,rfl,h⟩:=h
 refine ⟨_,(qad (qay (i:=2) sc.nd rfl (Or.inl rfl) (qah C_45 hr (by decide) (by rfl) (qaa (pv 1) (qaa qaj qab))))
   (qad (qaz (qap (qaC (K:=K) rfl hr.units0) (pv 2) (qa2 (qaa (qcQ T.c_NO_NAMES (by rfl)) qab)) (qas _)) (qaf (qai qag)) qal)
   (qad (qfI (i:=3) sc.nd rfl rfl (by rfl) (N:=["word", "words"]) (nt:=1) (caps:=[0]) qaJ rfl (qaL (pv 2)) (fun _ _ _ _ _=>(qau (i:=0) (show List.Nodup (α:=Str) ["word", "words"] from by decide +kernel) rfl (Or.inl rfl))) qaO (fun _ _ _ _ _=>qaZ) (fun _ _ _ _ _=>(qah C_28 hr (by decide) (by rfl) (qaa (pv 1) (qaa (pv 0) qab)))))
   (qad (qaz (qap (qdz (K:=K) rfl hr.units0) (pv 3) (qaA (qcV (P:=P) (w:=w) (K:=K) rfl rfl rfl rfl) (by rfl) T.n_sorted PyProof.Rows.boot_sorted (qaa (qcn (qhb (P:=P) (w:=w) (K:=K) rfl rfl rfl rfl) (by rfl) T.n_set PyProof.Rows.boot_set (qaa (pv 3) qab)) qab)) (qas _)) (qaf qbs) qal)
   (qaf (qai (qah C_44 hr (by decide) (by rfl) (qaa (pv 3) qab)))))))),?_⟩
 refine rdg (σ':=[some x0,some x1,none,none]) rfl ?_
 obtain ⟨p,ws,a,rfl,f1,hw,rfl,ha,q⟩:=h
 walk_at "rd"
 refine ⟨_,_,rfl,_,_,rfl,rfl,by rw [Tx.lit_plus];rfl,by have:=Tx.sT_len hw ha;omega,fun p1 G1 hp1 s1 a1=>?_⟩
 rw [Tx.split_sT hw ha] at a1
 (try walk_at "rd")
 refine ⟨qaH (by simp),fun p2 hp2=>?_⟩
 generalize g2:upd G1 p2 _=G2
 have a2:G2 p2=some (.lst (sV [("-" : Str)])):=qaw g2
 have s2:=qaq g2 hp2
 have a1:=s2 _ _ a1
 have s12:=s1.trans s2
 refine qj1 (SqL.of a1) (SqL.of a2) (qdc _) (qdc _) ?_
 rw [qhU]
 by_cases h0:a=0
 · rw [if_pos h0]
   refine ⟨true,by simp,qiH ?_⟩
   subst h0
   exact q _ s12
 rw [if_neg h0] at a1 ⊢
 have nd:Tx.wds ws a≠[("-" : Str)]:=fun z=>by
   have hm:=hw.wd "-" (Tx.wds_mem hw ha (by rw [z];exact List.mem_cons_self))
   have:=hm.2.2 45 (by rw [Tx.lit_dash];exact List.mem_cons_self)
   omega
 refine ⟨false,by simpa using nd,qeO ?_⟩
 have l8:(Fam.nms 8 a).length≤8:=Nat.le_trans (List.length_filter_le _ _) (by simp)
 have lw:(Tx.wds ws a).length≤8:=by unfold Tx.wds;rw [List.length_map];exact l8
 refine ⟨⟨_,SqL.of a1⟩,qmh (fs:=sV (Tx.wds ws a)) (fun _=>true) (fun v=>match v with | .str w => .int (ws.idxOf w:Nat) | _ => .non) (SqL.of a1) (by rw [qbo];omega) (fun x hx H3 s3 R R' r1 r2=>?_) fun H3 p3 s3 hp3=>?_⟩
 · obtain ⟨w,hw',rfl⟩:=List.mem_map.mp hx
   (try walk_at "rd")
   exact ⟨_,_,rfl,p,ws,w,rfl,s3 _ _ (s12 _ _ f1),hw.few,rfl,Tx.wds_mem hw ha hw',r1 rfl _ (Same.refl _)⟩
 have en:((sV (Tx.wds ws a)).filter fun _=>true).map (fun v=>match v with | .str w=>V.int (ws.idxOf w:Nat) | _ => .non)=nV (Fam.nms 8 a):=by
   rw [List.filter_eq_self.mpr fun _ _=>rfl,←Tx.idx_wds hw ha,List.map_map]
   unfold nV nI
   rw [List.map_map,List.map_map]
   rfl
 rw [en]
 generalize g3:upd H3 p3 _=G3
 have a3:=qaw g3
 have s3':=(s12.trans s3).trans (qaq g3 hp3)
 refine ⟨p3,_,rfl,SqL.of a3,by rw [nI,List.length_map];omega,fun p4 hp4=>?_⟩
 generalize g4:upd G3 p4 _=G4
 have a4:=qaw g4
 have a3:=qaq g4 hp4 _ _ a3
 have s4:=s3'.trans (qaq g4 hp4)
 refine ⟨p4,_,rfl,.inr a4,Nat.le_trans (qcF _) (by rw [nI,List.length_map];omega),fun p5 ms hp5 m1 m2=>?_⟩
 rw [qcj m1 m2,qly (Fam.nms_rise 8 a)]
 generalize g5:upd G4 p5 _=G5
 have a5:=qaw g5
 have a3:=qaq g5 hp5 _ _ a3
 have s5:=s4.trans (qaq g5 hp5)
 refine qss (SqL.of a3) (SqL.of a5) (qk5 _) (qk5 _) ⟨false,by rw [qn6];simp,qeO ?_⟩
 refine ⟨_,rfl,p3,_,rfl,SqL.of a3,fun k hk=>(Fam.mem_nms.mp hk).1,?_⟩
 rw [Fam.ofN_nms (n:=8) (Tx.lt256 hw ha)]
 exact q _ s5
abbrev qbj:Stmt:=top 30
theorem qdd:qao ["words", "text", "parts", "family"] ["words", "text"] (qac qbj):=⟨rfl,rfl,rfl,by decide +kernel,rfl,by decide +kernel,by decide +kernel⟩
theorem qnU {m:Nat}:∀(fs:List Nat) (b:Int),(∀x∈fs,b<(x:Int))→fs.Pairwise (· < ·)→(∀x∈fs,x<2^m)→qno m b (nV fs)=true
 | [],_,_,_,_=>rfl
 | x::r,b,h1,h2,h3=>by
   have h2:=List.pairwise_cons.mp h2
   have h4:=h3 x List.mem_cons_self
   show (decide (0≤(x:Int))&&decide ((x:Int)<(2^m:Nat))&&decide (b<(x:Int))&&qno m (x:Int) (nV r))=true
   rw [decide_eq_true (by omega),decide_eq_true (by omega),decide_eq_true (h1 x List.mem_cons_self),qnU r x (fun y hy=>by have:=h2.1 y hy;omega) h2.2 fun y hy=>h3 y (List.mem_cons_of_mem _ hy)]
   rfl
def qfB (K:W.Frag):Sp:=sp2 fun x y H Q=>∃(p:Addr) (ws:List Str) (fs:List Nat),x = .ref p∧H p=some (.lst (sV ws))∧Tx.Wds ws∧y = .str (Tx.fT ws fs)∧(∀b∈fs,b<2^ws.length)∧fs.Pairwise (· < ·)∧fs.length≤70∧∀p' H',H p'=none→Same H H'→H' p'=some (.lst (nV fs))→Q (.ref p') H'
theorem qfX {f:Addr} {fd:FuncData} (F:Fun K "read_family" "read_family" qbj f fd) (T:Txt mg) {f_45:Addr} {fd_45:FuncData} (C_45:Cal P w K mg base "parted" 1 ["text", "sign"] qdM f_45 fd_45) {f_35:Addr} {fd_35:FuncData} (C_35:Cal P w K mg base "read_set" 2 ["words", "text"] (qdH K) f_35 fd_35) {f_27:Addr} {fd_27:FuncData} (C_27:Cal P w K mg base "is_family" 3 ["many", "thing"] (qiv K) f_27 fd_27):qa1 P w K mg base CX0 4 f fd ["words", "text"] (qfB K):=by
 have sc:=qdd
 refine F.ok qdd (fun vs H Q E h=>by obtain ⟨_,_,rfl,_⟩:=h;rfl) (fun cdv A outer s H vs Q E hr h=>?_)
 obtain ⟨x0,x1,rfl,h⟩:=h
 refine ⟨_,(qad (qay (i:=2) sc.nd rfl (Or.inl rfl) (qah C_45 hr (by decide) (by rfl) (qaa (pv 1) (qaa qaj qab))))
   (qad (qaz (qap (qaC (K:=K) rfl hr.units0) (pv 2) (qa2 (qaa (qcQ T.c_NO_SETS (by rfl)) qab)) (qas _)) (qaf (qai (qa2 qab))) qal)
   (qad (qfI (i:=3) sc.nd rfl rfl (by rfl) (N:=["part", "words"]) (nt:=1) (caps:=[0]) qaJ rfl (qaL (pv 2)) (fun _ _ _ _ _=>(qau (i:=0) (show List.Nodup (α:=Str) ["part", "words"] from by decide +kernel) rfl (Or.inl rfl))) qaO (fun _ _ _ _ _=>qaZ) (fun _ _ _ _ _=>(qah C_35 hr (by decide) (by rfl) (qaa (pv 1) (qaa (pv 0) qab)))))
   (qad (qaz (qbk (qa3 (qah C_27 hr (by decide) (by rfl) (qaa (qaA (qaT (K:=K) rfl) (by rfl) T.n_len PySem.boot_len (qaa (pv 0) qab)) (qaa (pv 3) qab))))) (qaf qbs) qal)
   (qaf (qai (pv 3))))))),?_⟩
 refine rdg (σ':=[some x0,some x1,none,none]) rfl ?_
 obtain ⟨p,ws,fs,rfl,f1,hw,rfl,hb,hr,hl,q⟩:=h
 walk_at "rd"
 refine ⟨_,_,rfl,_,_,rfl,rfl,by rw [Tx.lit_space];rfl,by have:=Tx.fT_len hw hb (by omega);omega,fun p1 G1 hp1 s1 a1=>?_⟩
 rw [Tx.split_fT hw hb] at a1
 (try walk_at "rd")
 refine ⟨qaH (by simp),fun p2 hp2=>?_⟩
 generalize g2:upd G1 p2 _=G2
 have a2:G2 p2=some (.lst (sV [("none" : Str)])):=qaw g2
 have s2:=qaq g2 hp2
 have a1:=s2 _ _ a1
 have s12:=s1.trans s2
 refine qj1 (SqL.of a1) (SqL.of a2) (qdc _) (qdc _) ?_
 rw [qhU]
 by_cases h0:fs=[]
 · rw [if_pos h0]
   refine ⟨true,by simp,qiH ⟨qaH (by simp),fun p3 hp3=>?_⟩⟩
   subst h0
   exact q _ _ (qaB s12 hp3) (s12.trans (Same.new hp3)) qak
 rw [if_neg h0] at a1 ⊢
 have ne:fs.map (Tx.sT ws)≠[("none" : Str)]:=fun z=>by
   have hm:("none" : Str)∈fs.map (Tx.sT ws):=by rw [z];exact List.mem_cons_self
   obtain ⟨b,hb',e⟩:=List.mem_map.mp hm
   exact Tx.sT_none hw (hb b hb') e
 refine ⟨false,by simpa using ne,qeO ?_⟩
 have lz:(sV (fs.map (Tx.sT ws))).length=fs.length:=by rw [qbo,List.length_map]
 refine ⟨⟨_,SqL.of a1⟩,ql3 (xs:=sV (fs.map (Tx.sT ws))) (fun i ys H3=>Same G2 H3∧ys=nV (fs.take i)) ⟨Same.refl _,rfl⟩ (by rw [lz];exact qaH (by omega)) (fun i ys H3 hi ⟨s,e⟩=>⟨SqL.of (s _ _ a1),by rw [e,qbV,List.length_take];omega⟩) (fun i x ys H3 hx ⟨s3,e3⟩ R R' r1 r2=>?_) fun ys H3 ⟨s3,e3⟩ p3 hp3=>?_⟩
 · rw [List.getElem?_map,List.getElem?_map] at hx
   cases eb:fs[i]? with
   | none=>rw [eb] at hx;cases hx
   | some b =>
     rw [eb] at hx
     cases hx
     (try walk_at "rd")
     refine ⟨_,_,rfl,p,ws,b,rfl,s3 _ _ (s12 _ _ f1),hw,rfl,hb b (List.mem_of_getElem? eb),fun H4 s4=>r1 _ _ ⟨s3.trans s4,?_⟩⟩
     rw [e3,List.take_add_one,eb]
     simp [nV,nI]
 rw [lz,List.take_length] at e3
 subst e3
 generalize g3:upd H3 p3 _=G3
 have a3:=qaw g3
 have s4:=(s12.trans s3).trans (qaq g3 hp3)
 refine ⟨_,.inl (SqL.of (s4 _ _ f1)),?_⟩
 rw [qbo]
 refine ⟨_,_,rfl,ws.length,rfl,hw.few,.inl ⟨p3,nV fs,rfl,a3,by rw [qbV];omega,fun x hx=>?_,?_⟩⟩
 · obtain ⟨b,_,rfl⟩:=qot hx
   exact ⟨"int",rfl⟩
 rw [qnU fs (-1) (fun x _=>by omega) hr hb,qbV,decide_eq_true (show fs.length≤70 from hl)]
 refine ⟨true,rfl,?_⟩
 rw [if_neg (by decide)]
 exact q p3 _ (qaB (s12.trans s3) hp3) s4 a3
abbrev qd9:Stmt:=top 13
theorem qi5:qao ["one", "other"] ["one", "other"] (qac qd9):=⟨rfl,rfl,rfl,by decide +kernel,rfl,by decide +kernel,by decide +kernel⟩
def qix:Sp:=sp2 fun x y H Q=>∃a b:Nat,x = .int a∧y = .int b∧Q (.bl (decide (Fam.sub b a))) H
theorem qmT {f:Addr} {fd:FuncData} (F:Fun K "holds" "holds" qd9 f fd) (T:Txt mg)  : qa1 P w K mg base CX0 1 f fd ["one", "other"] qix:=by
 have sc:=qi5
 refine F.ok qi5 (fun vs H Q E h=>by obtain ⟨_,_,rfl,_⟩:=h;rfl) (fun cdv A outer s H vs Q E hr h=>?_)
 obtain ⟨x0,x1,rfl,h⟩:=h
 refine ⟨_,(qaf (qai (qgP (qaC (K:=K) rfl hr.units0) (qar qdt (pv 0) (pv 1)) (pv 1) (qas _)))),?_⟩
 refine rdg (σ':=[some x0,some x1]) rfl ?_
 obtain ⟨a,b,rfl,rfl,q⟩:=h
 walk_at "rd"
 rw [qcG,show decide (((a&&&b:Nat):Int)=(b:Int))=decide (Fam.sub b a) from decide_eq_decide.mpr (by unfold Fam.sub;omega)]
 exact q
abbrev qdY:Stmt:=top 14
theorem qjI:qao ["one", "other"] ["one", "other"] (qac qdY):=⟨rfl,rfl,rfl,by decide +kernel,rfl,by decide +kernel,by decide +kernel⟩
def qii:Sp:=sp2 fun x y H Q=>∃a b:Nat,x = .int a∧y = .int b∧Q (.bl (decide (Fam.mt a b))) H
theorem qnb {f:Addr} {fd:FuncData} (F:Fun K "meets" "meets" qdY f fd) (T:Txt mg)  : qa1 P w K mg base CX0 1 f fd ["one", "other"] qii:=by
 have sc:=qjI
 refine F.ok qjI (fun vs H Q E h=>by obtain ⟨_,_,rfl,_⟩:=h;rfl) (fun cdv A outer s H vs Q E hr h=>?_)
 obtain ⟨x0,x1,rfl,h⟩:=h
 refine ⟨_,(qaf (qai (qgP (qdz (K:=K) rfl hr.units0) (qar qdt (pv 0) (pv 1)) qag (qas _)))),?_⟩
 refine rdg (σ':=[some x0,some x1]) rfl ?_
 obtain ⟨a,b,rfl,rfl,q⟩:=h
 walk_at "rd"
 rw [qcG,show (!decide (((a&&&b:Nat):Int)=0))=decide (Fam.mt a b) from by
   rw [←decide_not]
   exact decide_eq_decide.mpr (by unfold Fam.mt;omega)]
 exact q
abbrev qgf:Stmt:=top 15
theorem ql0:qao ["many", "one", "whole_ground"] ["many", "one"] (qac qgf):=⟨rfl,rfl,rfl,by decide +kernel,rfl,by decide +kernel,by decide +kernel⟩
def qjD:Sp:=sp2 fun x y H Q=>∃m a:Nat,x = .int m∧y = .int a∧m≤8∧a<2^m∧Q (.int (Fam.rst m a:Nat)) H
theorem qoG {m a:Nat} (h:a<2^m):Builtin.bitAnd (1*2^(m:Int).toNat-1) (Builtin.bitNot a)=((Fam.rst m a:Nat):Int):=by
 rw [Int.one_mul,Int.toNat_natCast,qgv,bitAnd_not]
 have e:(((2^m:Nat):Int)-1)=((2^m-1:Nat):Int):=by have:=Nat.two_pow_pos m;omega
 rw [e,qcG,Nat.and_comm,Nat.and_two_pow_sub_one_eq_mod,Nat.mod_eq_of_lt h]
 unfold Fam.rst
 omega
theorem qpH {f:Addr} {fd:FuncData} (F:Fun K "rest" "rest" qgf f fd) (T:Txt mg)  : qa1 P w K mg base CX0 1 f fd ["many", "one"] qjD:=by
 have sc:=ql0
 refine F.ok ql0 (fun vs H Q E h=>by obtain ⟨_,_,rfl,_⟩:=h;rfl) (fun cdv A outer s H vs Q E hr h=>?_)
 obtain ⟨x0,x1,rfl,h⟩:=h
 refine ⟨_,(qad (qay (i:=2) sc.nd rfl (Or.inl rfl) (qar qjo (qar qc9 qag (pv 0)) qag))
   (qaf (qai (qar qdt (pv 2) (qpL qn0 (pv 1)))))),?_⟩
 refine rdg (σ':=[some x0,some x1,none]) rfl ?_
 obtain ⟨m,a,rfl,rfl,hm,ha,q⟩:=h
 walk_at "rd"
 refine ⟨qcg (by omega) (by omega) (by decide) (by decide),?_⟩
 rw [qoG ha]
 exact q
abbrev qf4:Stmt:=top 20
theorem qkN:qao ["family", "one", "other"] ["family", "one"] (qac qf4):=⟨rfl,rfl,rfl,by decide +kernel,rfl,by decide +kernel,by decide +kernel⟩
def qfQ (K:W.Frag):Sp:=sp2 fun x y H Q=>∃(p:Addr) (fs:List Nat) (a:Nat),x = .ref p∧SqL K H p (nV fs)∧y = .int a∧Q (.bl (Fam.sayP fs a)) H
theorem qox {α:Type} {fs:List α} {f:α→Bool} {i:Nat} {b:α} (h:fs[i]?=some b) (hb:f b=true):fs.any f=true:=List.any_eq_true.mpr ⟨b,List.mem_of_getElem? h,hb⟩
theorem qnM {α:Type} {fs:List α} {f:α→Bool} {i:Nat} {b:α} (h:fs[i]?=some b) (h0:(fs.take i).any f=false) (hb:f b=false):(fs.take (i+1)).any f=false:=by
 rw [List.take_add_one,h,List.any_append,h0]
 simpa using hb
theorem qpw {f:Addr} {fd:FuncData} (F:Fun K "says" "says" qf4 f fd) (T:Txt mg) {f_48:Addr} {fd_48:FuncData} (C_48:Cal P w K mg base "holds" 1 ["one", "other"] qix f_48 fd_48):qa1 P w K mg base CX0 2 f fd ["family", "one"] (qfQ K):=by
 have sc:=qkN
 refine F.ok qkN (fun vs H Q E h=>by obtain ⟨_,_,rfl,_⟩:=h;rfl) (fun cdv A outer s H vs Q E hr h=>?_)
 obtain ⟨x0,x1,rfl,h⟩:=h
 refine ⟨_,(qad (qbG PassesOwn.never rfl (qaL (pv 0)) (qau (i:=2) sc.nd rfl (Or.inl rfl)) (qaf (qaz (qa3 (qah C_48 hr (by decide) (by rfl) (qaa (pv 1) (qaa (pv 2) qab)))) (qaf (qai qcN)) qal)))
   (qaf (qai qcN))),?_⟩
 refine rdg (σ':=[some x0,some x1,none]) rfl ?_
 obtain ⟨p,fs,a,rfl,hq,rfl,q⟩:=h
 walk_at "rd"
 refine ⟨⟨_,hq⟩,qfL (fun i σ H'=>∃v,σ=[some (.ref p),some (.int a),v]∧H'=H∧(fs.take i).any (fun b=>decide (Fam.sub b a))=false) ⟨none,rfl,rfl,rfl⟩ (fun i σ H' _ ⟨v,_,e,_⟩=>e▸hq) ?_ ?_⟩
 · rintro i b σ H' hb ⟨v,rfl,rfl,h0⟩ N hN
   (try walk_at "rd")
   refine ⟨_,_,rfl,a,b,rfl,rfl,_,rfl,qnW (fun hc=>?_) fun hc=>hN _ _ ⟨_,rfl,rfl,qnM hb h0 hc⟩⟩
   rw [show Fam.sayP fs a=true from qox hb hc] at q
   exact q
 · rintro σ H' ⟨v,rfl,rfl,h0⟩
   rw [List.take_length] at h0
   rw [show Fam.sayP fs a=false from h0] at q
   exact q
abbrev qee:Stmt:=top 19
theorem qjC:qao ["some", "found", "one"] ["some"] (qac qee):=⟨rfl,rfl,rfl,by decide +kernel,rfl,by decide +kernel,by decide +kernel⟩
def qd7 (K:W.Frag):Sp:=sp1 fun x H Q=>∃(p:Addr) (fs:List Nat),x = .ref p∧SqL K H p (nV fs)∧(fs.length≤1000∨fs.length≤10000∧∀b∈fs,b<1000)∧∀H' p',H p'=none→Same H H'→H' p'=some (.lst (nV (Fam.mins (sd fs))))→Q (.ref p') H'
theorem qqR (fs:List Nat) {ms:List Int} (m1:ms.Perm (qdF (nI fs))) (m2:ms.Pairwise (·≤·)):(sd fs).length≤fs.length:=by
 have:=m1.length_eq
 rw [qcj m1 m2] at this
 have h2:=qcF (nI fs)
 simp at this h2
 omega
theorem qm0 {f:Addr} {fd:FuncData} (F:Fun K "least" "least" qee f fd) (T:Txt mg) {f_55:Addr} {fd_55:FuncData} (C_55:Cal P w K mg base "says" 2 ["family", "one"] (qfQ K) f_55 fd_55):qa1 P w K mg base CX0 3 f fd ["some"] (qd7 K):=by
 have sc:=qjC
 refine F.ok qjC (fun vs H Q E h=>by obtain ⟨_,rfl,_⟩:=h;rfl) (fun cdv A outer s H vs Q E hr h=>?_)
 obtain ⟨x0,rfl,h⟩:=h
 refine ⟨_,(qad (qay (i:=1) sc.nd rfl (Or.inl rfl) (qa2 qab))
   (qad (qbG PassesOwn.never rfl (qaL (qaA (qcV (P:=P) (w:=w) (K:=K) rfl rfl rfl rfl) (by rfl) T.n_sorted PyProof.Rows.boot_sorted (qaa (qcn (qhZ (P:=P) (w:=w) (K:=K) rfl rfl rfl rfl) (by rfl) T.n_set PyProof.Rows.boot_set (qaa (pv 0) qab)) qab))) (qau (i:=2) sc.nd rfl (Or.inl rfl)) (qaf (qaz (qbk (qa3 (qah C_55 hr (by decide) (by rfl) (qaa (pv 1) (qaa (pv 2) qab))))) (qaf (qdp (qb8 PySem.F.plainAttrs_list PySem.F.slot_list_append PySem.F.type_list_append qcH (pv 1) (qaa (pv 2) qab)))) qal)))
   (qaf (qai (pv 1))))),?_⟩
 refine rdg (σ':=[some x0,none,none]) rfl ?_
 obtain ⟨p,fs,rfl,hq,hl,q⟩:=h
 walk_at "rd"
 have hl0:fs.length≤10000:=by rcases hl with z | z<;>omega
 have hlz:(nI fs).length≤1000∨∀z∈nI fs,0≤z∧z<1000:=by
   rcases hl with z | z
   · exact .inl (by rw [List.length_map];exact z)
   · refine .inr fun y hy=>?_
     obtain ⟨b,hb,rfl⟩:=List.mem_map.mp hy
     have:=z.2 b hb
     omega
 refine ⟨qaH (by simp),fun p0 hp0=>?_⟩
 generalize g0:upd H p0 _=G0
 have a0:=qaw g0
 have t0:=qaq g0 hp0
 refine ⟨p,_,rfl,t0.seq hq,hlz,fun p1 hp1=>?_⟩
 generalize g1:upd G0 p1 _=G1
 have a1:=qaw g1
 have t1:=t0.trans (qaq g1 hp1)
 have n01:=qeo hp1 a0
 have a0:=qaq g1 hp1 _ _ a0
 refine ⟨p1,_,rfl,.inr a1,Nat.le_trans (qcF _) (by simp;omega),fun p2 ms hp2 m1 m2=>?_⟩
 have lsd:=qqR fs m1 m2
 rw [qcj m1 m2]
 generalize g2:upd G1 p2 _=G2
 have a2:=qaw g2
 have t2:=t1.trans (qaq g2 hp2)
 have n02:=qeo hp2 a0
 have a0:=qaq g2 hp2 _ _ a0
 refine ⟨p2,rfl,⟨_,SqL.of a2⟩,?_⟩
 refine qfL (fs:=sd fs) (fun i σ H3=>∃v,σ=[some (.ref p),some (.ref p0),v]∧H3=upd G2 p0 (.lst (nV (Fam.pick (fun _=>true) ((sd fs).take i))))) ⟨none,rfl,?_⟩ ?_ ?_ ?_
 · exact qjN a0
 · rintro i σ H3 hi ⟨v,rfl,rfl⟩
   exact SqL.of (by rw [qax (Ne.symm n02)];exact a2)
 · rintro i b σ H3 hbi ⟨v,rfl,rfl⟩ N hN
   have hlen:(Fam.pick (fun _=>true) ((sd fs).take i)).length≤10000:=Nat.le_trans (Fam.pick_len _ _) (by rw [List.length_take];omega)
   have es:(sd fs).take (i+1)=(sd fs).take i++[b]:=by rw [List.take_add_one,hbi];rfl
   have fin:∀L,Fam.pick (fun _=>true) ((sd fs).take (i+1))=L→N [some (.ref p),some (.ref p0),some (.int b)] (upd G2 p0 (.lst (nV L))):=fun L e=>hN _ _ ⟨_,rfl,by rw [e]⟩
   rw [es,Fam.pick_snoc] at fin
   generalize Fam.pick (fun _=>true) ((sd fs).take i)=L at fin hlen ⊢
   (try walk_at "rd")
   refine ⟨_,_,rfl,p0,L,b,rfl,SqL.of qak,rfl,?_⟩
   (try walk_at "rd")
   cases hs:Fam.sayP L b with
   | true =>
     rw [if_neg (by decide)]
     exact fin L (by rw [if_neg];rw [show (L.any fun c=>decide (Fam.sub c b))=true from hs];decide)
   | false =>
     rw [if_pos rfl]
     refine ⟨qej (by rw [qbV];omega),?_⟩
     rw [qio]
     exact fin (L++[b]) (by rw [if_pos];rw [show (L.any fun c=>decide (Fam.sub c b))=false from hs];decide)
 · rintro σ H3 ⟨v,rfl,rfl⟩
   rw [List.take_length]
   (try walk_at "rd")
   exact q _ p0 hp0 (t2.upd hp0) qak
abbrev qed:Stmt:=top 21
theorem qjq:qao ["many", "family"] ["many", "family"] (qac qed):=⟨rfl,rfl,rfl,by decide +kernel,rfl,by decide +kernel,by decide +kernel⟩
theorem qg0 {m:Nat} {fs:List Nat} (hr:fs.Pairwise (· < ·)) (hb:∀b∈fs,b<2^m):(Fam.rsts m fs).Pairwise (· < ·):=by
 unfold Fam.rsts
 rw [List.pairwise_reverse,List.pairwise_map]
 refine List.Pairwise.imp_of_mem (fun {a b} ha hb2 h=>?_) hr
 have:=hb a ha
 have:=hb b hb2
 unfold Fam.rst
 omega
theorem qrg {m:Nat} {fs:List Nat}:∀b∈Fam.rsts m fs,b<2^m:=fun b hb=>by
 unfold Fam.rsts at hb
 obtain ⟨a,_,rfl⟩:=List.mem_map.mp (List.mem_reverse.mp hb)
 exact Fam.rst_lt m a
theorem rsL_Fam.rsts {m:Nat} {fs:List Nat} (hb:∀b∈fs,b<2^m):Fam.rsts m (Fam.rsts m fs)=fs:=by
 unfold Fam.rsts
 rw [List.map_reverse,List.reverse_reverse,List.map_map]
 conv=>rhs;rw [←List.map_id fs]
 exact List.map_congr_left fun b h=>Fam.rst_rst (hb b h)
theorem qqj {m:Nat} {fs:List Nat} (hr:fs.Pairwise (· < ·)) (hb:∀b∈fs,b<2^m):sd (fs.map (Fam.rst m))=Fam.rsts m fs:=(qmB (qg0 hr hb) fun x=>by unfold Fam.rsts;rw [List.mem_reverse]).symm
def qiC (K:W.Frag):Sp:=sp2 fun x y H Q=>∃(m:Nat) (p:Addr) (fs:List Nat),x = .int m∧m≤8∧y = .ref p∧SqL K H p (nV fs)∧fs.Pairwise (· < ·)∧(∀b∈fs,b<2^m)∧fs.length≤1000 ∧
 ∀H' p',H p'=none→Same H H'→H' p'=some (.lst (nV (Fam.rsts m fs)))→Q (.ref p') H'
theorem qnz {f:Addr} {fd:FuncData} (F:Fun K "rests" "rests" qed f fd) (T:Txt mg) {f_54:Addr} {fd_54:FuncData} (C_54:Cal P w K mg base "rest" 1 ["many", "one"] qjD f_54 fd_54):qa1 P w K mg base CX0 2 f fd ["many", "family"] (qiC K):=by
 have sc:=qjq
 refine F.ok qjq (fun vs H Q E h=>by obtain ⟨_,_,rfl,_⟩:=h;rfl) (fun cdv A outer s H vs Q E hr h=>?_)
 obtain ⟨x0,x1,rfl,h⟩:=h
 refine ⟨_,(qaf (qai (qaA (qcV (P:=P) (w:=w) (K:=K) rfl rfl rfl rfl) (by rfl) T.n_sorted PyProof.Rows.boot_sorted (qaa (qaY (N:=["one", "many"]) (nt:=1) (caps:=[0]) qaJ rfl (qaL (pv 1)) (fun _ _ _ _ _=>(qau (i:=0) (show List.Nodup (α:=Str) ["one", "many"] from by decide +kernel) rfl (Or.inl rfl))) qaO (fun _ _ _ _ _=>qaZ) (fun _ _ _ _ _=>(qah C_54 hr (by decide) (by rfl) (qaa (pv 1) (qaa (pv 0) qab))))) qab)))),?_⟩
 refine rdg (σ':=[some x0,some x1]) rfl ?_
 obtain ⟨m,p,fs,rfl,hm,rfl,hq,hr,hb,hl,q⟩:=h
 walk_at "rd"
 refine ⟨⟨_,hq⟩,qer (fun _=>true) (fun b => .int (Fam.rst m b:Nat)) hq (by omega) (fun b hbm H1 s1 R R' r1 r2=>?_) fun H1 p1 s1 hp1=>?_⟩
 · (try walk_at "rd")
   exact ⟨_,_,rfl,m,b,rfl,rfl,hm,hb b hbm,r1 rfl _ (Same.refl _)⟩
 have e:(fs.filter fun _=>true).map (fun b=>V.int (Fam.rst m b:Nat))=nV (fs.map (Fam.rst m)):=by
   rw [List.filter_eq_self.mpr fun _ _=>rfl]
   simp
 rw [e]
 generalize e1:upd H1 p1 _=H2
 have f1:=qaw e1
 have s2:=s1.trans (qaq e1 hp1)
 refine ⟨p1,_,rfl,.inl (SqL.of f1),by simp;omega,fun l ms hl2 m1 m2=>?_⟩
 have nd:(fs.map (Fam.rst m)).Nodup:=by
   have:=(qg0 hr hb).imp (fun {a b} (h:a<b)=>Nat.ne_of_lt h)
   unfold Fam.rsts at this
   exact (List.pairwise_reverse.mp this).imp fun h=>Ne.symm h
 rw [qlj nd m1 m2,qqj hr hb]
 exact q _ _ (qaB s2 hl2) (s2.trans (Same.new hl2)) qak
abbrev qa6:Stmt:=top 44
theorem qcK:qao ["family", "one", "other"] ["family", "one"] (qac qa6):=⟨rfl,rfl,rfl,by decide +kernel,rfl,by decide +kernel,by decide +kernel⟩
def oV (o:Option Nat):V:=match o with | some b => .int (b:Nat) | none => .non
def qfl (K:W.Frag):Sp:=sp2 fun x y H Q=>∃(p:Addr) (fs:List Nat) (a:Nat),x = .ref p∧SqL K H p (nV fs)∧y = .int a∧Q (oV (fs.find? fun b=>!decide (Fam.mt a b))) H
theorem qdW {fs:List Nat} {f:Nat→Bool} {i b:Nat} (h:fs[i]?=some b) (h0:(fs.take i).find? f=none) (hb:f b=false):(fs.take (i+1)).find? f=none:=by
 rw [List.take_add_one,h,List.find?_append,h0]
 simp [hb]
theorem qdN {fs:List Nat} {f:Nat→Bool} {i b:Nat} (h:fs[i]?=some b) (h0:(fs.take i).find? f=none) (hb:f b=true):fs.find? f=some b:=by
 have e:fs=fs.take i++b::fs.drop (i+1):=by
   have hi:=(List.getElem?_eq_some_iff.mp h).1
   have:=List.take_append_drop i fs
   rw [List.drop_eq_getElem_cons hi] at this
   rw [(List.getElem?_eq_some_iff.mp h).2] at this
   exact this.symm
 rw [e,List.find?_append,h0]
 simp [hb]
theorem qeT {f:Addr} {fd:FuncData} (F:Fun K "first_missed" "first_missed" qa6 f fd) (T:Txt mg) {f_49:Addr} {fd_49:FuncData} (C_49:Cal P w K mg base "meets" 1 ["one", "other"] qii f_49 fd_49):qa1 P w K mg base CX0 2 f fd ["family", "one"] (qfl K):=by
 have sc:=qcK
 refine F.ok qcK (fun vs H Q E h=>by obtain ⟨_,_,rfl,_⟩:=h;rfl) (fun cdv A outer s H vs Q E hr h=>?_)
 obtain ⟨x0,x1,rfl,h⟩:=h
 refine ⟨_,(qad (qbG PassesOwn.never rfl (qaL (pv 0)) (qau (i:=2) sc.nd rfl (Or.inl rfl)) (qaf (qaz (qbk (qa3 (qah C_49 hr (by decide) (by rfl) (qaa (pv 1) (qaa (pv 2) qab))))) (qaf (qai (pv 2))) qal)))
   (qaf (qai qex))),?_⟩
 refine rdg (σ':=[some x0,some x1,none]) rfl ?_
 obtain ⟨p,fs,a,rfl,hq,rfl,q⟩:=h
 walk_at "rd"
 refine ⟨⟨_,hq⟩,qfL (fun i σ H'=>∃v,σ=[some (.ref p),some (.int a),v]∧H'=H∧(fs.take i).find? (fun b=>!decide (Fam.mt a b))=none) ⟨none,rfl,rfl,rfl⟩ (fun i σ H' _ ⟨v,_,e,_⟩=>e▸hq) ?_ ?_⟩
 · rintro i b σ H' hb ⟨v,rfl,rfl,h0⟩ N hN
   (try walk_at "rd")
   refine ⟨_,_,rfl,a,b,rfl,rfl,_,rfl,?_⟩
   cases hc:decide (Fam.mt a b) with
   | true =>
     rw [if_neg (by decide)]
     exact hN _ _ ⟨_,rfl,rfl,qdW hb h0 (by rw [hc];rfl)⟩
   | false =>
     rw [if_pos rfl]
     rw [qdN hb h0 (by rw [hc];rfl)] at q
     exact q
 · rintro σ H' ⟨v,rfl,rfl,h0⟩
   rw [List.take_length] at h0
   rw [h0] at q
   exact q
abbrev qgl:Stmt:=top 42
theorem qlv:qao ["many", "family", "found", "one"] ["many", "family"] (qac qgl):=⟨rfl,rfl,rfl,by decide +kernel,rfl,by decide +kernel,by decide +kernel⟩
theorem qjw (fs:List Nat) (a:Nat):(fs.find? fun b=>!decide (Fam.mt a b))=none↔Fam.hitP fs a=true:=by
 rw [List.find?_eq_none,Fam.hitP_iff]
 simp
def qml (K:W.Frag):Sp:=sp2 fun x y H Q=>∃(m:Nat) (p:Addr) (fs:List Nat),x = .int m∧m≤8∧y = .ref p∧H p=some (.lst (nV fs))∧∀H' p',H p'=none→Same H H'→H' p'=some (.lst (nV (Fam.hits m fs)))→Q (.ref p') H'
theorem qo2 {f:Addr} {fd:FuncData} (F:Fun K "hits" "hits" qgl f fd) (T:Txt mg) {f_55:Addr} {fd_55:FuncData} (C_55:Cal P w K mg base "says" 2 ["family", "one"] (qfQ K) f_55 fd_55) {f_09:Addr} {fd_09:FuncData} (C_09:Cal P w K mg base "first_missed" 2 ["family", "one"] (qfl K) f_09 fd_09):qa1 P w K mg base CX0 3 f fd ["many", "family"] (qml K):=by
 have sc:=qlv
 refine F.ok qlv (fun vs H Q E h=>by obtain ⟨_,_,rfl,_⟩:=h;rfl) (fun cdv A outer s H vs Q E hr h=>?_)
 obtain ⟨x0,x1,rfl,h⟩:=h
 refine ⟨_,(qad (qay (i:=2) sc.nd rfl (Or.inl rfl) (qa2 qab))
   (qad (qbG PassesOwn.never rfl (qaQ (by rfl) T.n_range (qaa (qar qc9 qag (pv 0)) qab)) (qau (i:=3) sc.nd rfl (Or.inl rfl)) (qaf (qaz (PW.pt (qht (qbk (qa3 (qah C_55 hr (by decide) (by rfl) (qaa (pv 2) (qaa (pv 3) qab))))) (qfT (qap qn4 (qah C_09 hr (by decide) (by rfl) (qaa (pv 1) (qaa (pv 3) qab))) qex (qas _))))) (qaf (qdp (qb8 PySem.F.plainAttrs_list PySem.F.slot_list_append PySem.F.type_list_append qcH (pv 2) (qaa (pv 3) qab)))) qal)))
   (qaf (qai (pv 2))))),?_⟩
 refine rdg (σ':=[some x0,some x1,none,none]) rfl ?_
 obtain ⟨m,p,fs,rfl,hm,rfl,f1,q⟩:=h
 walk_at "rd"
 rw [qcs]
 have pp:=Nat.two_pow_pos m
 have p8:2^m≤256:=Nat.pow_le_pow_right (n:=2) (by decide) hm
 refine ⟨qaH (by simp),fun p0 hp0=>⟨qcg (by omega) (by omega) (by decide) (by decide),by omega,by omega,?_⟩⟩
 rw [Int.toNat_natCast]
 generalize g0:upd H p0 _=G0
 have a0:=qaw g0
 have t0:=qaq g0 hp0
 have n0:=qeo hp0 f1
 refine qhg (fun i σ H3=>∃v,σ=[some (.int m),some (.ref p),some (.ref p0),v]∧H3=upd G0 p0 (.lst (nV (Fam.pick (Fam.hitP fs) (List.range i))))) ⟨_,rfl,qjN a0⟩ ?_ ?_
 · rintro i σ H3 hi ⟨v,rfl,rfl⟩ N hN
   have hlen:(Fam.pick (Fam.hitP fs) (List.range i)).length≤1000:=Nat.le_trans (Fam.pick_len _ _) (by simp;omega)
   have fin:∀L,Fam.pick (Fam.hitP fs) (List.range (i+1))=L→N [some (.int m),some (.ref p),some (.ref p0),some (.int (i:Nat))] (upd G0 p0 (.lst (nV L))):=fun L e=>hN _ _ ⟨_,rfl,by rw [e]⟩
   rw [List.range_succ,Fam.pick_snoc] at fin
   generalize Fam.pick (Fam.hitP fs) (List.range i)=L at fin hlen ⊢
   have fp:upd G0 p0 (.lst (nV L)) p=some (.lst (nV fs)):=by rw [qax n0];exact t0 _ _ f1
   (try walk_at "rd")
   refine ⟨_,_,rfl,p0,L,i,rfl,SqL.of qak,rfl,?_⟩
   (try walk_at "rd")
   cases hs:Fam.sayP L i with
   | true =>
     rw [if_neg (by decide)]
     exact fin L (by rw [if_neg];rw [show (L.any fun c=>decide (Fam.sub c i))=true from hs];simp)
   | false =>
     rw [if_pos rfl]
     refine ⟨_,_,rfl,p,fs,i,rfl,SqL.of fp,rfl,?_⟩
     have hs':(L.any fun c=>decide (Fam.sub c i))=false:=hs
     have hf:=qjw fs i
     cases ho:(fs.find? fun b=>!decide (Fam.mt i b)) with
     | none =>
       have hh:=hf.mp ho
       refine ⟨rfl,?_⟩
       rw [if_pos (show oV none=V.non from rfl)]
       refine ⟨qdG qak,qjb.mpr ⟨qej (by (try rw [qbV]);omega),?_⟩⟩
       rw [qio]
       exact fin (L++[i]) (by rw [if_pos];rw [hs',hh];rfl)
     | some b =>
       have hh:Fam.hitP fs i=false:=by
         cases hq:Fam.hitP fs i with
         | false=>rfl
         | true=>rw [hf.mpr hq] at ho;cases ho
       refine ⟨rfl,?_⟩
       rw [if_neg (by intro z;cases z)]
       exact fin L (by rw [if_neg];rw [hs',hh];decide)
 · rintro σ H3 ⟨v,rfl,rfl⟩
   (try walk_at "rd")
   exact q _ p0 hp0 (t0.upd hp0) qak
abbrev qbL:Stmt:=top 61
theorem qen:qao ["family", "k"] ["family", "k"] (qac qbL):=⟨rfl,rfl,rfl,by decide +kernel,rfl,by decide +kernel,by decide +kernel⟩
def inn (fs:List Nat) (k:Nat):List Nat:=Fam.mins (sd (fs.map fun b=>Fam.clr b k))
def qsE (K:W.Frag):Sp:=sp2 fun x y H Q=>∃(p:Addr) (fs:List Nat) (k:Nat),x = .ref p∧SqL K H p (nV fs)∧y = .int k∧k≤8∧fs.length≤1000∧∀H' p',H p'=none→Same H H'→H' p'=some (.lst (nV (inn fs k)))→Q (.ref p') H'
theorem qqB (b k:Nat):Builtin.bitAnd (b:Int) (Builtin.bitNot ((2^k:Nat):Int))=((Fam.clr b k:Nat):Int):=by
 rw [bitAnd_not,qcG,Fam.and_pow]
 unfold Fam.clr Fam.less
 by_cases h:b.testBit k=true
 · rw [if_pos h,if_pos h]
   have:=Fam.xor_bit h
   omega
 · rw [if_neg h,if_neg h]
   simp
theorem qg5 (fs:List Nat) (k:Nat):(inn fs k).Pairwise (· < ·):=Fam.mins_rise (qaU _)
theorem qsz {fs:List Nat} {n:Nat} (k:Nat) (h:fs.length≤n):(inn fs k).length≤n:=Nat.le_trans (Fam.pick_len _ _) (qpr _ (by rw [List.length_map];exact h))
theorem qlp (fs:List Nat) (k a:Nat):Fam.sayP (inn fs k) a=Fam.sayP fs (a|||2^k):=by
 unfold inn
 rw [Fam.say_mins (qaU _),←Fam.say_clr]
 exact Fam.say_congr (fun x=>qcw) a
theorem qjf {fs:List Nat} {m k:Nat} (h:∀b∈fs,b<2^m):∀b∈inn fs k,b<2^m:=fun b hb=>by
 obtain ⟨c,hc,rfl⟩:=List.mem_map.mp (qcw.mp (Fam.mins_sub (qaU _) b hb))
 exact Nat.lt_of_le_of_lt (Fam.clr_le c k) (h c hc)
theorem qho {f:Addr} {fd:FuncData} (F:Fun K "always_in" "always_in" qbL f fd) (T:Txt mg) {f_50:Addr} {fd_50:FuncData} (C_50:Cal P w K mg base "least" 3 ["some"] (qd7 K) f_50 fd_50):qa1 P w K mg base CX0 4 f fd ["family", "k"] (qsE K):=by
 have sc:=qen
 refine F.ok qen (fun vs H Q E h=>by obtain ⟨_,_,rfl,_⟩:=h;rfl) (fun cdv A outer s H vs Q E hr h=>?_)
 obtain ⟨x0,x1,rfl,h⟩:=h
 refine ⟨_,(qaf (qai (qah C_50 hr (by decide) (by rfl) (qaa (qaY (N:=["one", "k"]) (nt:=1) (caps:=[1]) qaJ rfl (qaL (pv 0)) (fun _ _ _ _ _=>(qau (i:=0) (show List.Nodup (α:=Str) ["one", "k"] from by decide +kernel) rfl (Or.inl rfl))) qaO (fun _ _ _ _ _=>qaZ) (fun _ _ _ _ _=>(qar qdt (pv 0) (qpL qn0 (qar qc9 qag (pv 1)))))) qab)))),?_⟩
 refine rdg (σ':=[some x0,some x1]) rfl ?_
 obtain ⟨p,fs,k,rfl,hq,rfl,hk,hl,q⟩:=h
 walk_at "rd"
 refine ⟨⟨_,hq⟩,qer (fun _=>true) (fun b => .int (Fam.clr b k:Nat)) hq (by omega) (fun b hbm H1 s1 R R' r1 r2=>?_) fun H1 p1 s1 hp1=>?_⟩
 · (try walk_at "rd")
   rw [qcs,qqB]
   exact ⟨qcg (by omega) (by omega) (by decide) (by decide),r1 rfl _ (Same.refl _)⟩
 have e:(fs.filter fun _=>true).map (fun b=>V.int (Fam.clr b k:Nat))=nV (fs.map fun b=>Fam.clr b k):=by
   rw [List.filter_eq_self.mpr fun _ _=>rfl]
   simp
 rw [e]
 generalize g1:upd H1 p1 _=G1
 have a1:=qaw g1
 have t1:=s1.trans (qaq g1 hp1)
 refine ⟨_,rfl,p1,_,rfl,SqL.of a1,.inl (by rw [List.length_map];exact hl),fun G2 p2 hp2 t2 a2=>?_⟩
 exact q _ p2 (qaB t1 hp2) (t1.trans t2) a2
abbrev qbw:Stmt:=top 62
theorem qdR:qao ["family", "k"] ["family", "k"] (qac qbw):=⟨rfl,rfl,rfl,by decide +kernel,rfl,by decide +kernel,by decide +kernel⟩
def qpX (K:W.Frag):Sp:=sp2 fun x y H Q=>∃(p:Addr) (fs:List Nat) (k:Nat),x = .ref p∧SqL K H p (nV fs)∧y = .int k∧k≤8∧fs.length≤1000∧∀H' p',H p'=none→Same H H'→H' p'=some (.lst (nV (Fam.outs (Fam.mins (sd fs)) k)))→Q (.ref p') H'
theorem qdD {fs:List Nat} (k:Nat) (h:fs.Pairwise (· < ·)):(Fam.outs fs k).Pairwise (· < ·):=h.sublist List.filter_sublist
theorem qnf (fs:List Nat) (k:Nat):(Fam.outs fs k).length≤fs.length:=List.length_filter_le _ _
theorem qo6 (fs:List Nat) (k a:Nat):Fam.sayP (Fam.outs (Fam.mins (sd fs)) k) a=Fam.sayP fs (Fam.clr a k):=by
 rw [Fam.say_outs,Fam.say_mins (qaU _)]
 exact Fam.say_congr (fun x=>qcw) _
theorem qmp {fs:List Nat} {m k:Nat} (h:∀b∈fs,b<2^m):∀b∈Fam.outs (Fam.mins (sd fs)) k,b<2^m:=fun b hb=>h b (qcw.mp (Fam.mins_sub (qaU _) b (List.mem_filter.mp hb).1))
theorem qsw {fs:List Nat} {n k:Nat} (h:fs.length≤n):(Fam.outs (Fam.mins (sd fs)) k).length≤n:=Nat.le_trans (qnf _ _) (Nat.le_trans (Fam.pick_len _ _) (qpr fs h))
theorem qgK {f:Addr} {fd:FuncData} (F:Fun K "always_out" "always_out" qbw f fd) (T:Txt mg) {f_50:Addr} {fd_50:FuncData} (C_50:Cal P w K mg base "least" 3 ["some"] (qd7 K) f_50 fd_50):qa1 P w K mg base CX0 4 f fd ["family", "k"] (qpX K):=by
 have sc:=qdR
 refine F.ok qdR (fun vs H Q E h=>by obtain ⟨_,_,rfl,_⟩:=h;rfl) (fun cdv A outer s H vs Q E hr h=>?_)
 obtain ⟨x0,x1,rfl,h⟩:=h
 refine ⟨_,(qaf (qai (qaY (N:=["one", "k"]) (nt:=1) (caps:=[1]) qaJ rfl (qaL (qah C_50 hr (by decide) (by rfl) (qaa (pv 0) qab))) (fun _ _ _ _ _=>(qau (i:=0) (show List.Nodup (α:=Str) ["one", "k"] from by decide +kernel) rfl (Or.inl rfl))) qaO (fun _ _ _ _ _=>(qeV (qap (qaC (K:=K) rfl hr.units0) (qar qdt (qar qkO (pv 0) (pv 1)) qag) qag (qas _)))) (fun _ _ _ _ _=>(pv 0))))),?_⟩
 refine rdg (σ':=[some x0,some x1]) rfl ?_
 obtain ⟨p,fs,k,rfl,hq,rfl,hk,hl,q⟩:=h
 walk_at "rd"
 refine ⟨_,rfl,p,fs,rfl,hq,.inl hl,fun G1 p1 hp1 t1 a1=>?_⟩
 have l1:(Fam.mins (sd fs)).length≤1000:=Nat.le_trans (Fam.pick_len _ _) (qpr fs hl)
 refine ⟨p1,rfl,⟨_,SqL.of a1⟩,qer (fun b=>!b.testBit k) (fun b => .int (b:Nat)) (SqL.of a1) (by omega) (fun b hbm H1 s1 R R' r1 r2=>?_) fun H1 p2 s1 hp2=>?_⟩
 · (try walk_at "rd")
   exact ⟨by omega,qgn qmS (fun hc=>r1 hc _ (Same.refl _)) fun hc=>r2 hc _ (Same.refl _)⟩
 rw [qqh]
 have t2:=t1.trans s1
 exact q _ p2 (qaB t2 hp2) (t2.trans (Same.new hp2)) qak
abbrev qc1:Stmt:=top 63
theorem qhL:qao ["one", "other"] ["one", "other"] (qac qc1):=⟨rfl,rfl,rfl,by decide +kernel,rfl,by decide +kernel,by decide +kernel⟩
def qeg (fs gs:List Nat):List Nat:=Fam.mins (sd (fs++gs))
def qgO (K:W.Frag):Sp:=sp2 fun x y H Q=>∃(p1 p2:Addr) (fs gs:List Nat),x = .ref p1∧SqL K H p1 (nV fs)∧y = .ref p2∧SqL K H p2 (nV gs)∧fs.length+gs.length≤1000∧∀H' p',H p'=none→Same H H'→H' p'=some (.lst (nV (qeg fs gs)))→Q (.ref p') H'
theorem qfR (fs gs:List Nat):(qeg fs gs).Pairwise (· < ·):=Fam.mins_rise (qaU _)
theorem qgg (fs gs:List Nat):Fam.Anti (qeg fs gs):=Fam.mins_alone (qaU _)
theorem qjO (fs gs:List Nat) (a:Nat):Fam.sayP (qeg fs gs) a=(Fam.sayP fs a||Fam.sayP gs a):=by
 unfold qeg
 rw [Fam.say_mins (qaU _),←Fam.say_append]
 exact Fam.say_congr (fun x=>qcw) a
theorem qg2 {m:Nat} {fs gs:List Nat} (h1:∀b∈fs,b<2^m) (h2:∀b∈gs,b<2^m):∀b∈qeg fs gs,b<2^m:=fun b hb=>by
 rcases List.mem_append.mp (qcw.mp (Fam.mins_sub (qaU _) b hb)) with z | z
 · exact h1 b z
 · exact h2 b z
theorem qhc {m:Nat} {L:List Nat} (hm:m≤8) (hr:L.Pairwise (· < ·)) (hb:∀b∈L,b<2^m) (ha:Fam.Anti L):L.length≤70:=Fam.sperner hr (fun b h=>Nat.lt_of_lt_of_le (hb b h) (Nat.pow_le_pow_right (n:=2) (by decide) hm)) ha
theorem qk4 {f:Addr} {fd:FuncData} (F:Fun K "either" "either" qc1 f fd) (T:Txt mg) {f_50:Addr} {fd_50:FuncData} (C_50:Cal P w K mg base "least" 3 ["some"] (qd7 K) f_50 fd_50):qa1 P w K mg base CX0 4 f fd ["one", "other"] (qgO K):=by
 have sc:=qhL
 refine F.ok qhL (fun vs H Q E h=>by obtain ⟨_,_,rfl,_⟩:=h;rfl) (fun cdv A outer s H vs Q E hr h=>?_)
 obtain ⟨x0,x1,rfl,h⟩:=h
 refine ⟨_,(qaf (qai (qah C_50 hr (by decide) (by rfl) (qaa (qar (qg1 (K:=K) rfl) (pv 0) (pv 1)) qab)))),?_⟩
 refine rdg (σ':=[some x0,some x1]) rfl ?_
 obtain ⟨p1,p2,fs,gs,rfl,h1,rfl,h2,hl,q⟩:=h
 walk_at "rd"
 refine ⟨p1,p2,_,_,rfl,rfl,h1,h2,qaH (by rw [qbV,qbV];omega),fun p3 hp3=>?_⟩
 rw [qhS]
 generalize g3:upd H p3 _=G3
 have a3:=qaw g3
 have t3:=qaq g3 hp3
 refine ⟨_,rfl,p3,_,rfl,SqL.of a3,.inl (by rw [List.length_append];exact hl),fun G4 p4 hp4 t4 a4=>?_⟩
 exact q _ p4 (qaB t3 hp4) (t3.trans t4) a4
abbrev qf3:Stmt:=top 64
theorem qk0:qao ["one", "other", "joined", "a"] ["one", "other"] (qac qf3):=⟨rfl,rfl,rfl,by decide +kernel,rfl,by decide +kernel,by decide +kernel⟩
def bo (fs gs:List Nat):List Nat:=Fam.mins (sd (Fam.pairs fs gs))
def qkw (K:W.Frag):Sp:=sp2 fun x y H Q=>∃(p1 p2:Addr) (fs gs:List Nat),x = .ref p1∧H p1=some (.lst (nV fs))∧y = .ref p2∧H p2=some (.lst (nV gs))∧fs.length≤70∧gs.length≤70∧(∀b∈fs,b<2^8)∧(∀b∈gs,b<2^8)∧∀H' p',H p'=none→Same H H'→H' p'=some (.lst (nV (bo fs gs)))→Q (.ref p') H'
theorem qiY (fs gs:List Nat):(bo fs gs).Pairwise (· < ·):=Fam.mins_rise (qaU _)
theorem qjv (fs gs:List Nat):Fam.Anti (bo fs gs):=Fam.mins_alone (qaU _)
theorem qoo (fs gs:List Nat) (a:Nat):Fam.sayP (bo fs gs) a=(Fam.sayP fs a&&Fam.sayP gs a):=by
 unfold bo
 rw [Fam.say_mins (qaU _),←Fam.say_pairs]
 exact Fam.say_congr (fun x=>qcw) a
theorem qnE {m:Nat} {fs gs:List Nat} (h1:∀b∈fs,b<2^m) (h2:∀b∈gs,b<2^m):∀b∈bo fs gs,b<2^m:=fun b hb=>Fam.pairs_lt h1 h2 b (qcw.mp (Fam.mins_sub (qaU _) b hb))
theorem qoI {f:Addr} {fd:FuncData} (F:Fun K "both" "both" qf3 f fd) (T:Txt mg) {f_50:Addr} {fd_50:FuncData} (C_50:Cal P w K mg base "least" 3 ["some"] (qd7 K) f_50 fd_50):qa1 P w K mg base CX0 4 f fd ["one", "other"] (qkw K):=by
 have sc:=qk0
 refine F.ok qk0 (fun vs H Q E h=>by obtain ⟨_,_,rfl,_⟩:=h;rfl) (fun cdv A outer s H vs Q E hr h=>?_)
 obtain ⟨x0,x1,rfl,h⟩:=h
 refine ⟨_,(qad (qay (i:=2) sc.nd rfl (Or.inl rfl) (qa2 qab))
   (qad (qbG PassesOwn.never rfl (qaL (pv 0)) (qau (i:=3) sc.nd rfl (Or.inr rfl)) (qaf (qdp (qb8 PySem.F.plainAttrs_list PySem.F.slot_list_extend PySem.F.type_list_extend qmt (pv 2) (qaa (qaY (N:=["b", "a"]) (nt:=1) (caps:=[3]) qaJ rfl (qaL (pv 1)) (fun _ _ _ _ _=>(qau (i:=0) (show List.Nodup (α:=Str) ["b", "a"] from by decide +kernel) rfl (Or.inl rfl))) qaO (fun _ _ _ _ _=>qaZ) (fun _ _ _ _ _=>(qar qpa (pv 1) (pv 0)))) qab)))))
   (qaf (qai (qah C_50 hr (by decide) (by rfl) (qaa (pv 2) qab)))))),?_⟩
 refine rdg (σ':=[some x0,some x1,none,none]) rfl ?_
 obtain ⟨p1,p2,fs,gs,rfl,f1,rfl,f2,l1,l2,b1,b2,q⟩:=h
 walk_at "rd"
 refine ⟨qaH (by simp),fun p0 hp0=>?_⟩
 have n1:=qeo hp0 f1
 have n2:=qeo hp0 f2
 generalize g0:upd H p0 _=G0
 have a0:=qaw g0
 have t0:=qaq g0 hp0
 refine ⟨⟨_,SqL.of (t0 _ _ f1)⟩,?_⟩
 refine qfL (fs:=fs) (fun i σ H3=>∃v,σ=[some (.ref p1),some (.ref p2),some (.ref p0),v]∧Same H H3∧H3 p0=some (.lst (nV (Fam.pairs (fs.take i) gs)))) ⟨none,rfl,t0,a0⟩ (fun i σ H3 _ ⟨_,_,e,_⟩=>SqL.of (e _ _ f1)) ?_ ?_
 · rintro i x σ H3 hx ⟨v,rfl,s3,a3⟩ N hN
   have hi:=(List.getElem?_eq_some_iff.mp hx).1
   (try walk_at "rd")
   refine ⟨qdG a3,⟨_,SqL.of (s3 _ _ f2)⟩,qer (fun _=>true) (fun b => .int ((x|||b:Nat))) (SqL.of (s3 _ _ f2)) (by omega) (fun b hbm H4 s4 R R' r1 r2=>?_) fun G4 p4 t4 hp4=>?_⟩
   · (try walk_at "rd")
     rw [qkQ]
     exact r1 rfl _ (Same.refl _)
   have e:(gs.filter fun _=>true).map (fun b=>V.int ((x|||b:Nat)))=nV (gs.map fun b=>x|||b):=by
     rw [List.filter_eq_self.mpr fun _ _=>rfl]
     simp
   rw [e]
   generalize g4:upd G4 p4 _=G5
   have a5:=qaw g4
   have t5:=t4.trans (qaq g4 hp4)
   have a3:=t5 _ _ a3
   have lp:(Fam.pairs (fs.take i) gs).length≤5000:=by
     rw [Fam.pairs_len]
     exact Nat.le_trans (Nat.mul_le_mul (show (fs.take i).length≤70 by rw [List.length_take];omega) l2) (by decide)
   refine ⟨p0,p4,_,_,rfl,rfl,a3,a5,qaH (by rw [qbV,qbV,List.length_map];omega),?_⟩
   rw [qhS]
   refine hN _ _ ⟨_,rfl,(s3.trans t5).upd hp0,?_⟩
   rw [qak,List.take_add_one,hx]
   unfold Fam.pairs
   rw [List.flatMap_append]
   simp
 · rintro σ H3 ⟨v,rfl,s3,a3⟩
   rw [List.take_length] at a3
   (try walk_at "rd")
   have lp:(Fam.pairs fs gs).length≤5000:=by
     rw [Fam.pairs_len]
     exact Nat.le_trans (Nat.mul_le_mul l1 l2) (by decide)
   refine ⟨_,rfl,p0,_,rfl,SqL.of a3,.inr ⟨by omega,fun b hb=>Nat.lt_trans (Fam.pairs_lt b1 b2 b hb) (by decide)⟩,fun G4 p4 hp4 t4 a4=>?_⟩
   exact q _ p4 (qaB s3 hp4) (s3.trans t4) a4
abbrev qaE:Stmt:=top 45
theorem qbS:qao ["family", "one", "k", "other"] ["family", "one", "k"] (qac qaE):=⟨rfl,rfl,rfl,by decide +kernel,rfl,by decide +kernel,by decide +kernel⟩
def qdX (fs:List Nat) (a k:Nat):Option Nat:=fs.find? fun b=>decide (a&&&b=2^k)
def qiz (K:W.Frag):Sp:=sp3 fun x y z H Q=>∃(p:Addr) (fs:List Nat) (a k:Nat),x = .ref p∧SqL K H p (nV fs)∧y = .int a∧z = .int k∧k≤100∧Q (oV (qdX fs a k)) H
theorem qcM {f:Addr} {fd:FuncData} (F:Fun K "first_met_by_alone" "first_met_by_alone" qaE f fd) (T:Txt mg)  : qa1 P w K mg base CX0 1 f fd ["family", "one", "k"] (qiz K):=by
 have sc:=qbS
 refine F.ok qbS (fun vs H Q E h=>by obtain ⟨_,_,_,rfl,_⟩:=h;rfl) (fun cdv A outer s H vs Q E hr h=>?_)
 obtain ⟨x0,x1,x2,rfl,h⟩:=h
 refine ⟨_,(qad (qbG PassesOwn.never rfl (qaL (pv 0)) (qau (i:=3) sc.nd rfl (Or.inl rfl)) (qaf (qaz (qap (qaC (K:=K) rfl hr.units0) (qar qdt (pv 1) (pv 3)) (qar qc9 qag (pv 2)) (qas _)) (qaf (qai (pv 3))) qal)))
   (qaf (qai qex))),?_⟩
 refine rdg (σ':=[some x0,some x1,some x2,none]) rfl ?_
 obtain ⟨p,fs,a,k,rfl,hq,rfl,rfl,hk,q⟩:=h
 walk_at "rd"
 refine ⟨⟨_,hq⟩,qfL (fun i σ H'=>∃v,σ=[some (.ref p),some (.int a),some (.int k),v]∧H'=H∧(fs.take i).find? (fun b=>decide (a&&&b=2^k))=none) ⟨none,rfl,rfl,rfl⟩ (fun i σ H' _ ⟨v,_,e,_⟩=>e▸hq) ?_ ?_⟩
 · rintro i b σ H' hb ⟨v,rfl,rfl,h0⟩ N hN
   (try walk_at "rd")
   rw [qcs,qcG]
   refine ⟨qcg (by omega) (by omega) (by decide) (by decide),qgn (b:=decide (a&&&b=2^k)) (by rw [decide_eq_true_eq];omega) (fun hc=>?_) fun hc=>hN _ _ ⟨_,rfl,rfl,qdW hb h0 hc⟩⟩
   rw [show qdX fs a k=some b from qdN hb h0 hc] at q
   exact q
 · rintro σ H' ⟨v,rfl,rfl,h0⟩
   rw [List.take_length] at h0
   rw [show qdX fs a k=none from h0] at q
   exact q
abbrev qcW:Stmt:=top 43
theorem qhM:qao ["family", "one", "missed", "own", "k", "other"] ["family", "one"] (qac qcW):=⟨rfl,rfl,rfl,by decide +kernel,rfl,by decide +kernel,by decide +kernel⟩
def qfm (fs:List Nat) (a:Nat):Option Nat:=fs.find? fun b=>!decide (Fam.mt a b)
def qns (fs:List Nat) (a:Nat):Option Nat:=(Fam.nms 8 a).find? fun k=>(qdX fs a k).isNone
/-- the rows at ps are (k,other),k through L -/
def Rows (H:Hp) (fs:List Nat) (a:Nat) (L:List Nat) (ps:List Addr):Prop:=ps.length=L.length∧∀(j k:Nat) (r:Addr),L[j]?=some k→ps[j]?=some r→∃o,qdX fs a k=some o∧H r=some (.tup [.int (k:Nat),.int (o:Nat)])
theorem Rows.mono {H H':Hp} {fs:List Nat} {a:Nat} {L:List Nat} {ps:List Addr} (h:Rows H fs a L ps) (s:Same H H'):Rows H' fs a L ps:=⟨h.1,fun j k r h1 h2=>let ⟨o,e1,e2⟩:=h.2 j k r h1 h2;⟨o,e1,s _ _ e2⟩⟩
theorem Rows.snoc {H:Hp} {fs:List Nat} {a:Nat} {L:List Nat} {ps:List Addr} {k o:Nat} {r:Addr} (h:Rows H fs a L ps) (e:qdX fs a k=some o) (hr:H r=some (.tup [.int (k:Nat),.int (o:Nat)])):Rows H fs a (L++[k]) (ps++[r]):=by
 refine ⟨by simp [h.1],fun j c r' hj hr'=>?_⟩
 rcases Nat.lt_or_ge j L.length with z | z
 · rw [List.getElem?_append_left z] at hj
   rw [List.getElem?_append_left (by rw [h.1];exact z)] at hr'
   exact h.2 j c r' hj hr'
 · rw [List.getElem?_append_right z] at hj
   rw [List.getElem?_append_right (by rw [h.1];exact z),h.1] at hr'
   have hj0:j-L.length=0:=by
     rcases Nat.eq_zero_or_pos (j-L.length) with y | y
     · exact y
     · rw [List.getElem?_eq_none (by simp;omega)] at hj;cases hj
   rw [hj0] at hj hr'
   cases hj
   cases hr'
   exact ⟨o,e,hr⟩
def qgo (K:W.Frag):Sp:=sp2 fun x y H Q=>∃(p:Addr) (fs:List Nat) (a:Nat),x = .ref p∧H p=some (.lst (nV fs))∧y = .int a∧a<256 ∧
 (∀b,qfm fs a=some b→∀t H',H t=none→Same H H'→H' t=some (.tup [.str "misses",.int (b:Nat)])→Q (.ref t) H') ∧
 (qfm fs a=none→∀k,qns fs a=some k→∀t H',H t=none→Same H H'→H' t=some (.tup [.str "spare",.int (k:Nat)])→Q (.ref t) H') ∧
 (qfm fs a=none→qns fs a=none→∀(t p':Addr) (ps:List Addr) (H':Hp),H t=none→H p'=none→(∀r∈ps,H r=none)→Same H H'→H' t=some (.tup [.str "least",.ref p'])→H' p'=some (.lst (ps.map V.ref))→Rows H' fs a (Fam.nms 8 a) ps→Q (.ref t) H')
theorem qk1 {f:Addr} {fd:FuncData} (F:Fun K "looked" "looked" qcW f fd) (T:Txt mg) {f_09:Addr} {fd_09:FuncData} (C_09:Cal P w K mg base "first_missed" 2 ["family", "one"] (qfl K) f_09 fd_09) {f_33:Addr} {fd_33:FuncData} (C_33:Cal P w K mg base "names_in" 1 ["one"] qdx f_33 fd_33) {f_00:Addr} {fd_00:FuncData} (C_00:Cal P w K mg base "first_met_by_alone" 1 ["family", "one", "k"] (qiz K) f_00 fd_00):qa1 P w K mg base CX0 3 f fd ["family", "one"] (qgo K):=by
 have sc:=qhM
 refine F.ok qhM (fun vs H Q E h=>by obtain ⟨_,_,rfl,_⟩:=h;rfl) (fun cdv A outer s H vs Q E hr h=>?_)
 obtain ⟨x0,x1,rfl,h⟩:=h
 refine ⟨_,(qad (qay (i:=2) sc.nd rfl (Or.inl rfl) (qah C_09 hr (by decide) (by rfl) (qaa (pv 0) (qaa (pv 1) qab))))
   (qad (qaz (qap qeW (pv 2) qex (qas _)) (qaf (qai (qeZ (qaa qaj (qaa (pv 2) qab))))) qal)
   (qad (qay (i:=3) sc.nd rfl (Or.inl rfl) (qa2 qab))
   (qad (qbG PassesOwn.never rfl (qaL (qah C_33 hr (by decide) (by rfl) (qaa (pv 1) qab))) (qau (i:=4) sc.nd rfl (Or.inl rfl)) (qad (qay (i:=5) sc.nd rfl (Or.inl rfl) (qah C_00 hr (by decide) (by rfl) (qaa (pv 0) (qaa (pv 1) (qaa (pv 4) qab)))))
   (qad (qaz (qap qn4 (pv 5) qex (qas _)) (qaf (qai (qeZ (qaa qaj (qaa (pv 4) qab))))) qal)
   (qaf (qdp (qb8 PySem.F.plainAttrs_list PySem.F.slot_list_append PySem.F.type_list_append qcH (pv 3) (qaa (qeZ (qaa (pv 4) (qaa (pv 5) qab))) qab)))))))
   (qaf (qai (qeZ (qaa qaj (qaa (pv 3) qab))))))))),?_⟩
 refine rdg (σ':=[some x0,some x1,none,none,none,none]) rfl ?_
 obtain ⟨p,fs,a,rfl,f1,rfl,ha,q1,q2,q3⟩:=h
 walk_at "rd"
 refine ⟨_,_,rfl,p,fs,a,rfl,SqL.of f1,rfl,?_⟩
 have em:(fs.find? fun b=>!decide (Fam.mt a b))=qfm fs a:=rfl
 rw [em]
 cases hm:qfm fs a with
 | some b =>
   refine ⟨rfl,true,by simp [oV],qiH ⟨qaH (by simp),fun t ht=>q1 b hm t _ ht (Same.new ht) qak⟩⟩
 | none =>
   refine ⟨rfl,false,by simp [oV],qeO ⟨qaH (by simp),fun p0 hp0=>?_⟩⟩
   generalize g0:upd H p0 _=G0
   have a0:=qaw g0
   have t0:=qaq g0 hp0
   refine ⟨_,rfl,a,rfl,ha,fun G1 p1 t1 hp1=>⟨p1,rfl,⟨_,SqL.of qak⟩,?_⟩⟩
   have a0:=t1 _ _ a0
   have n01:=qeo hp1 a0
   generalize g1:upd G1 p1 _=G2
   have a1:=qaw g1
   have t2:=(t0.trans t1).trans (qaq g1 hp1)
   have a0:=qaq g1 hp1 _ _ a0
   have l8:(Fam.nms 8 a).length≤8:=Nat.le_trans (List.length_filter_le _ _) (by simp)
   refine qfL (fs:=Fam.nms 8 a) (fun i σ H3=>∃v1 v2 ps,σ=[some (.ref p),some (.int a),some .non,some (.ref p0),v1,v2]∧Same H H3∧H3 p1=some (.lst (nV (Fam.nms 8 a)))∧H3 p0=some (.lst (ps.map V.ref))∧(∀r∈ps,H r=none)∧Rows H3 fs a ((Fam.nms 8 a).take i) ps∧((Fam.nms 8 a).take i).find? (fun k=>(qdX fs a k).isNone)=none) ⟨none,none,[],rfl,t2,a1,a0,fun r hr=>(by cases hr),⟨rfl,fun j k r h=>(by simp at h)⟩,rfl⟩ (fun i σ H3 _ ⟨_,_,_,_,_,e,_⟩=>SqL.of e) ?_ ?_
   · rintro i k σ H3 hk ⟨v1,v2,ps,rfl,s3,b1,b0,fr,rw1,fd⟩ N hN
     have k8:=(Fam.mem_nms.mp (List.mem_of_getElem? hk)).1
     (try walk_at "rd")
     refine ⟨_,_,_,rfl,p,fs,a,k,rfl,SqL.of (s3 _ _ f1),rfl,rfl,by omega,?_⟩
     cases ho:qdX fs a k with
     | none =>
       refine ⟨rfl,?_⟩
       rw [if_pos (show oV none=V.non from rfl)]
       refine ⟨qaH (by simp),fun t ht=>q2 hm k (qdN hk fd (by rw [ho];rfl)) t _ (qaB s3 ht) (s3.trans (Same.new ht)) qak⟩
     | some o =>
       refine ⟨rfl,?_⟩
       rw [if_neg (fun z=>by cases z)]
       refine ⟨qdG b0,qaH (by simp),fun r hr=>?_⟩
       generalize g5:upd H3 r _=G5
       have a5:=qaw g5
       have t5:=qaq g5 hr
       have n0r:=qeo hr b0
       have n1r:=qeo hr b1
       refine ⟨p0,_,_,rfl,rfl,t5 _ _ b0,qej (by rw [List.length_map,rw1.1,List.length_take];omega),hN _ _ ⟨_,_,ps++[r],rfl,(s3.trans t5).upd hp0,?_,by rw [qak];simp,fun r' hr'=>?_,?_,qdW hk fd (by rw [ho];rfl)⟩⟩
       · rw [qax (Ne.symm n01)]
         exact t5 _ _ b1
       · rcases List.mem_append.mp hr' with z | z
         · exact fr r' z
         · rw [show r'=r by simpa using z]
           exact qaB s3 hr
       · rw [List.take_add_one,hk]
         have rw2:Rows (upd G5 p0 (.lst (ps.map V.ref++[V.ref r]))) fs a ((Fam.nms 8 a).take i) ps:=⟨rw1.1,fun j c r' h1 h2=>by
           obtain ⟨o',e1,e2⟩:=rw1.2 j c r' h1 h2
           refine ⟨o',e1,?_⟩
           rw [qax (fun z=>by rw [z,b0] at e2;cases e2)]
           exact t5 _ _ e2⟩
         exact rw2.snoc ho (by rw [qax (Ne.symm n0r)];exact a5)
   · rintro σ H3 ⟨v1,v2,ps,rfl,s3,b1,b0,fr,rw1,fd⟩
     rw [List.take_length] at rw1 fd
     (try walk_at "rd")
     exact ⟨qaH (by simp),fun t ht=>q3 hm fd t p0 ps _ (qaB s3 ht) hp0 fr (s3.trans (Same.new ht)) qak (Same.new ht _ _ b0) (rw1.mono (Same.new ht))⟩
abbrev qaR:Stmt:=top 48
theorem qcm:qao ["many", "one", "other", "s"] ["many", "one", "other"] (qac qaR):=⟨rfl,rfl,rfl,by decide +kernel,rfl,by decide +kernel,by decide +kernel⟩
def qeh (m:Nat) (fs gs:List Nat):Option Nat:=(List.range (2^m)).find? fun s=>!Fam.sayP fs s&&!Fam.sayP gs (Fam.rst m s)
def ql5 (K:W.Frag):Sp:=sp3 fun x y z H Q=>∃(m:Nat) (p1 p2:Addr) (fs gs:List Nat),x = .int m∧m≤8∧y = .ref p1∧SqL K H p1 (nV fs)∧z = .ref p2∧SqL K H p2 (nV gs)∧Q (oV (qeh m fs gs)) H
theorem qmu {f:Nat→Bool} {i:Nat} (h0:(List.range i).find? f=none) (hb:f i=false):(List.range (i+1)).find? f=none:=by
 rw [List.range_succ,List.find?_append,h0]
 simp [hb]
theorem qmI {f:Nat→Bool} {n i:Nat} (hi:i<n) (h0:(List.range i).find? f=none) (hb:f i=true):(List.range n).find? f=some i:=by
 obtain ⟨d,rfl⟩:∃d,n=i+(1+d):=⟨n-i-1,by omega⟩
 rw [List.range_add,List.find?_append,h0,Nat.add_comm 1 d,List.range_succ_eq_map]
 simp [hb]
theorem qec {f:Addr} {fd:FuncData} (F:Fun K "first_left_out" "first_left_out" qaR f fd) (T:Txt mg) {f_55:Addr} {fd_55:FuncData} (C_55:Cal P w K mg base "says" 2 ["family", "one"] (qfQ K) f_55 fd_55) {f_54:Addr} {fd_54:FuncData} (C_54:Cal P w K mg base "rest" 1 ["many", "one"] qjD f_54 fd_54):qa1 P w K mg base CX0 3 f fd ["many", "one", "other"] (ql5 K):=by
 have sc:=qcm
 refine F.ok qcm (fun vs H Q E h=>by obtain ⟨_,_,_,rfl,_⟩:=h;rfl) (fun cdv A outer s H vs Q E hr h=>?_)
 obtain ⟨x0,x1,x2,rfl,h⟩:=h
 refine ⟨_,(qad (qbG PassesOwn.never rfl (qaQ (by rfl) T.n_range (qaa (qar qc9 qag (pv 0)) qab)) (qau (i:=3) sc.nd rfl (Or.inl rfl)) (qaf (qaz (PW.pt (qht (qbk (qa3 (qah C_55 hr (by decide) (by rfl) (qaa (pv 1) (qaa (pv 3) qab))))) (qfT (qbk (qa3 (qah C_55 hr (by decide) (by rfl) (qaa (pv 2) (qaa (qah C_54 hr (by decide) (by rfl) (qaa (pv 0) (qaa (pv 3) qab))) qab)))))))) (qaf (qai (pv 3))) qal)))
   (qaf (qai qex))),?_⟩
 refine rdg (σ':=[some x0,some x1,some x2,none]) rfl ?_
 obtain ⟨m,p1,p2,fs,gs,rfl,hm,rfl,h1,rfl,h2,q⟩:=h
 walk_at "rd"
 have pp:=Nat.two_pow_pos m
 have p8:2^m≤256:=Nat.pow_le_pow_right (n:=2) (by decide) hm
 rw [qcs]
 refine ⟨qcg (by omega) (by omega) (by decide) (by decide),by omega,by omega,?_⟩
 rw [Int.toNat_natCast]
 refine qhg (fun i σ H3=>∃v,σ=[some (.int m),some (.ref p1),some (.ref p2),v]∧H3=H∧(List.range i).find? (fun s=>!Fam.sayP fs s&&!Fam.sayP gs (Fam.rst m s))=none) ⟨none,rfl,rfl,rfl⟩ ?_ ?_
 · rintro i σ H3 hi ⟨v,rfl,rfl,h0⟩ N hN
   (try walk_at "rd")
   refine ⟨_,_,rfl,p1,fs,i,rfl,h1,rfl,?_⟩
   (try walk_at "rd")
   cases hs:Fam.sayP fs i with
   | true =>
     rw [if_neg (by decide)]
     exact hN _ _ ⟨_,rfl,rfl,qmu h0 (by rw [hs];rfl)⟩
   | false =>
     rw [if_pos rfl]
     refine ⟨_,_,rfl,m,i,rfl,rfl,hm,hi,?_⟩
     refine ⟨_,_,rfl,p2,gs,_,rfl,h2,rfl,?_⟩
     (try walk_at "rd")
     cases hg:Fam.sayP gs (Fam.rst m i) with
     | true=>exact hN _ _ ⟨_,rfl,rfl,qmu h0 (by rw [hs,hg];rfl)⟩
     | false =>
       rw [show qeh m fs gs=some i from qmI hi h0 (by rw [hs,hg];rfl)] at q
       exact q
 · rintro σ H3 ⟨v,rfl,rfl,h0⟩
   rw [show qeh m fs gs=none from h0] at q
   exact q
abbrev qgj:Stmt:=top 47
theorem qlQ:qao ["many", "one", "other", "a", "b", "s"] ["many", "one", "other"] (qac qgj):=⟨rfl,rfl,rfl,by decide +kernel,rfl,by decide +kernel,by decide +kernel⟩
def qj9 (gs:List Nat) (a:Nat):Option Nat:=gs.find? fun b=>!decide (Fam.mt a b)
def qhj (fs gs:List Nat):Option Nat:=fs.find? fun a=>(qj9 gs a).isSome
def qpo (m:Nat) (fs gs:List Nat):List V:=match qhj fs gs with
 | some a=>[.str "apart",.int (a:Nat),oV (qj9 gs a)]
 | none=>match qeh m fs gs with
   | some s=>[.str "neither",.int (s:Nat)]
   | none=>[.str "each"]
def qk9 (K:W.Frag):Sp:=sp3 fun x y z H Q=>∃(m:Nat) (p1 p2:Addr) (fs gs:List Nat),x = .int m∧m≤8∧y = .ref p1∧SqL K H p1 (nV fs)∧z = .ref p2∧SqL K H p2 (nV gs)∧∀t H',H t=none→Same H H'→H' t=some (.tup (qpo m fs gs))→Q (.ref t) H'
theorem qp0 {f:Addr} {fd:FuncData} (F:Fun K "held" "held" qgj f fd) (T:Txt mg) {f_04:Addr} {fd_04:FuncData} (C_04:Cal P w K mg base "first_left_out" 3 ["many", "one", "other"] (ql5 K) f_04 fd_04) {f_09:Addr} {fd_09:FuncData} (C_09:Cal P w K mg base "first_missed" 2 ["family", "one"] (qfl K) f_09 fd_09):qa1 P w K mg base CX0 4 f fd ["many", "one", "other"] (qk9 K):=by
 have sc:=qlQ
 refine F.ok qlQ (fun vs H Q E h=>by obtain ⟨_,_,_,rfl,_⟩:=h;rfl) (fun cdv A outer s H vs Q E hr h=>?_)
 obtain ⟨x0,x1,x2,rfl,h⟩:=h
 refine ⟨_,(qad (qbG PassesOwn.never rfl (qaL (pv 1)) (qau (i:=3) sc.nd rfl (Or.inl rfl)) (qad (qay (i:=4) sc.nd rfl (Or.inl rfl) (qah C_09 hr (by decide) (by rfl) (qaa (pv 2) (qaa (pv 3) qab))))
   (qaf (qaz (qap qeW (pv 4) qex (qas _)) (qaf (qai (qeZ (qaa qaj (qaa (pv 3) (qaa (pv 4) qab)))))) qal))))
   (qad (qay (i:=5) sc.nd rfl (Or.inl rfl) (qah C_04 hr (by decide) (by rfl) (qaa (pv 0) (qaa (pv 1) (qaa (pv 2) qab)))))
   (qad (qaz (qap qeW (pv 5) qex (qas _)) (qaf (qai (qeZ (qaa qaj (qaa (pv 5) qab))))) qal)
   (qaf (qai (qeZ (qaa qaj qab))))))),?_⟩
 refine rdg (σ':=[some x0,some x1,some x2,none,none,none]) rfl ?_
 obtain ⟨m,p1,p2,fs,gs,rfl,hm,rfl,h1,rfl,h2,q⟩:=h
 walk_at "rd"
 refine ⟨⟨_,h1⟩,qfL (fs:=fs) (fun i σ H'=>∃v1 v2,σ=[some (.int m),some (.ref p1),some (.ref p2),v1,v2,none]∧H'=H∧(fs.take i).find? (fun a=>(qj9 gs a).isSome)=none) ⟨none,none,rfl,rfl,rfl⟩ (fun i σ H' _ ⟨_,_,_,e,_⟩=>e▸h1) ?_ ?_⟩
 · rintro i x σ H' hx ⟨v1,v2,rfl,rfl,h0⟩ N hN
   (try walk_at "rd")
   refine ⟨_,_,rfl,p2,gs,x,rfl,h2,rfl,?_⟩
   rw [show (gs.find? fun b=>!decide (Fam.mt x b))=qj9 gs x from rfl]
   cases hb:qj9 gs x with
   | none=>exact ⟨rfl,false,by simp [oV],qeO (hN _ _ ⟨_,_,rfl,rfl,qdW hx h0 (by rw [hb];rfl)⟩)⟩
   | some b =>
     refine ⟨rfl,true,by simp [oV],qiH ⟨qaH (by simp),fun t ht=>q t _ ht (Same.new ht) ?_⟩⟩
     rw [qak]
     unfold qpo
     rw [show qhj fs gs=some x from qdN hx h0 (by rw [hb];rfl)]
     dsimp only
     rw [hb]
 · rintro σ H' ⟨v1,v2,rfl,rfl,h0⟩
   rw [List.take_length] at h0
   (try walk_at "rd")
   refine ⟨_,_,_,rfl,m,p1,p2,fs,gs,rfl,hm,rfl,h1,rfl,h2,?_⟩
   (try walk_at "rd")
   cases hs:qeh m fs gs with
   | none =>
     refine ⟨rfl,false,by simp [oV],qeO ⟨qaH (by simp),fun t ht=>q t _ ht (Same.new ht) ?_⟩⟩
     rw [qak]
     unfold qpo
     rw [show qhj fs gs=none from h0,hs]
   | some s =>
     refine ⟨rfl,true,by simp [oV],qiH ⟨qaH (by simp),fun t ht=>q t _ ht (Same.new ht) ?_⟩⟩
     rw [qak]
     unfold qpo
     rw [show qhj fs gs=none from h0,hs]
     rfl
abbrev qb0:Stmt:=top 50
theorem qfN:qao ["many", "family"] ["many", "family"] (qac qb0):=⟨rfl,rfl,rfl,by decide +kernel,rfl,by decide +kernel,by decide +kernel⟩
def qfx (K:W.Frag):Sp:=sp2 fun x y H Q=>∃(m:Nat) (p:Addr) (fs:List Nat),x = .int m∧m≤8∧y = .ref p∧H p=some (.lst (nV fs))∧∀H' p',H p'=none→Same H H'→H' p'=some (.lst (bV (tab (2^m) (Fam.sayP fs))))→Q (.ref p') H'
theorem qiu {f:Addr} {fd:FuncData} (F:Fun K "table_of" "table_of" qb0 f fd) (T:Txt mg) {f_55:Addr} {fd_55:FuncData} (C_55:Cal P w K mg base "says" 2 ["family", "one"] (qfQ K) f_55 fd_55):qa1 P w K mg base CX0 3 f fd ["many", "family"] (qfx K):=by
 have sc:=qfN
 refine F.ok qfN (fun vs H Q E h=>by obtain ⟨_,_,rfl,_⟩:=h;rfl) (fun cdv A outer s H vs Q E hr h=>?_)
 obtain ⟨x0,x1,rfl,h⟩:=h
 refine ⟨_,(qaf (qai (qaY (N:=["s", "family"]) (nt:=1) (caps:=[1]) qaJ rfl (qaQ (by rfl) T.n_range (qaa (qar qc9 qag (pv 0)) qab)) (fun _ _ _ _ _=>(qau (i:=0) (show List.Nodup (α:=Str) ["s", "family"] from by decide +kernel) rfl (Or.inl rfl))) qaO (fun _ _ _ _ _=>qaZ) (fun _ _ _ _ _=>(qah C_55 hr (by decide) (by rfl) (qaa (pv 1) (qaa (pv 0) qab))))))),?_⟩
 refine rdg (σ':=[some x0,some x1]) rfl ?_
 obtain ⟨m,p,fs,rfl,hm,rfl,f1,q⟩:=h
 walk_at "rd"
 have p8:=Nat.pow_le_pow_right (n:=2) (by decide) hm;rw [show 2^8=256 from rfl] at p8
 have pp:=Nat.two_pow_pos m
 rw [qcs]
 refine ⟨qcg (by omega) (by omega) (by decide) (by decide),by omega,by omega,?_⟩
 rw [Int.toNat_natCast]
 refine qdb (fun _=>true) (fun k => .bl (Fam.sayP fs k)) (by omega) (fun k hk H1 sm R R' r1 r2=>?_) fun H1 p1 sm hp=>?_
 · (try walk_at "rd")
   exact ⟨_,_,rfl,p,fs,k,rfl,SqL.of (sm _ _ f1),rfl,r1 rfl _ (Same.refl _)⟩
 · rw [qpB]
   exact q _ p1 (qaB sm hp) (sm.trans (Same.new hp)) qak
abbrev qbJ:Stmt:=top 57
theorem qes:qao ["many", "table", "k"] ["many", "table", "k"] (qac qbJ):=⟨rfl,rfl,rfl,by decide +kernel,rfl,by decide +kernel,by decide +kernel⟩
def qgA (K:W.Frag):Sp:=sp3 fun x y z H Q=>∃(m:Nat) (p:Addr) (f:Nat→Bool) (k:Nat),x = .int m∧m≤8∧y = .ref p∧H p=some (.lst (bV (tab (2^m) f)))∧z = .int k∧k<m∧∀H',Same H H'→Q (.int (Fam.trn m f k:Nat)) H'
theorem qh3 {f:Addr} {fd:FuncData} (F:Fun K "turned_by" "turned_by" qbJ f fd) (T:Txt mg)  : qa1 P w K mg base CX0 1 f fd ["many", "table", "k"] (qgA K):=by
 have sc:=qes
 refine F.ok qes (fun vs H Q E h=>by obtain ⟨_,_,_,rfl,_⟩:=h;rfl) (fun cdv A outer s H vs Q E hr h=>?_)
 obtain ⟨x0,x1,x2,rfl,h⟩:=h
 refine ⟨_,(qaf (qai (qaA (qaT (K:=K) rfl) (by rfl) T.n_len PySem.boot_len (qaa (qaY (N:=["s", "table", "k"]) (nt:=1) (caps:=[1,2]) qaJ rfl (qaQ (by rfl) T.n_range (qaa (qar qc9 qag (pv 0)) qab)) (fun _ _ _ _ _=>(qau (i:=0) (show List.Nodup (α:=Str) ["s", "table", "k"] from by decide +kernel) rfl (Or.inl rfl))) qaO (fun _ _ _ _ _=>(qeV (PW.pt (qht (qbk (qa3 (qba (qcB (K:=K) rfl) (pv 1) (pv 0) (fun _ _=>rfl)))) (qfT (qa3 (qba (qcB (K:=K) rfl) (pv 1) (qar qpa (pv 0) (qar qc9 qag (pv 2))) (fun _ _=>rfl)))))))) (fun _ _ _ _ _=>(pv 0))) qab)))),?_⟩
 refine rdg (σ':=[some x0,some x1,some x2]) rfl ?_
 obtain ⟨m,p,f,k,rfl,hm,rfl,f1,rfl,hk,q⟩:=h
 walk_at "rd"
 have pp:=Nat.two_pow_pos m
 have p8:2^m≤256:=Nat.pow_le_pow_right (n:=2) (by decide) hm
 have pk:2^k<2^m:=Nat.pow_lt_pow_right (by decide) hk
 rw [qcs]
 refine ⟨qcg (by omega) (by omega) (by decide) (by decide),by omega,by omega,?_⟩
 rw [Int.toNat_natCast]
 refine qdb (fun s=>!f s&&f (s|||2^k)) (fun s => .int (s:Nat)) (by omega) (fun s hs H1 sm R R' r1 r2=>?_) fun H1 p1 sm hp=>?_
 · (try walk_at "rd")
   refine qbl (SqL.of (sm _ _ f1)) (qks hs) ⟨_,rfl,?_⟩
   (try walk_at "rd")
   cases h1:f s with
   | true =>
     rw [if_neg (by decide)]
     exact r2 (by rw [h1];rfl) _ (Same.refl _)
   | false =>
     rw [if_pos rfl]
     rw [qcs,qkQ]
     refine ⟨qcg (by omega) (by omega) (by decide) (by decide),qbl (SqL.of (sm _ _ f1)) (qks (Nat.or_lt_two_pow hs pk)) ⟨_,rfl,qnW (fun hc=>r1 (by rw [h1,hc];rfl) _ (Same.refl _)) fun hc=>r2 (by rw [h1,hc];rfl) _ (Same.refl _)⟩⟩
 · refine ⟨p1,rfl,_,.inl (SqL.of qak),?_⟩
   rw [List.length_map]
   exact q _ (sm.trans (Same.new hp))
abbrev qeb:Stmt:=top 56
theorem qi8:qao ["many", "family", "table"] ["many", "family"] (qac qeb):=⟨rfl,rfl,rfl,by decide +kernel,rfl,by decide +kernel,by decide +kernel⟩
def qiA (K:W.Frag):Sp:=sp2 fun x y H Q=>∃(m:Nat) (p:Addr) (fs:List Nat),x = .int m∧m≤8∧y = .ref p∧H p=some (.lst (nV fs))∧∀H' p',H p'=none→Same H H'→H' p'=some (.lst (nV (Fam.trns m (Fam.sayP fs))))→Q (.ref p') H'
theorem qm1 {f:Addr} {fd:FuncData} (F:Fun K "turns" "turns" qeb f fd) (T:Txt mg) {f_36:Addr} {fd_36:FuncData} (C_36:Cal P w K mg base "table_of" 3 ["many", "family"] (qfx K) f_36 fd_36) {f_30:Addr} {fd_30:FuncData} (C_30:Cal P w K mg base "turned_by" 1 ["many", "table", "k"] (qgA K) f_30 fd_30):qa1 P w K mg base CX0 4 f fd ["many", "family"] (qiA K):=by
 have sc:=qi8
 refine F.ok qi8 (fun vs H Q E h=>by obtain ⟨_,_,rfl,_⟩:=h;rfl) (fun cdv A outer s H vs Q E hr h=>?_)
 obtain ⟨x0,x1,rfl,h⟩:=h
 refine ⟨_,(qad (qay (i:=2) sc.nd rfl (Or.inr rfl) (qah C_36 hr (by decide) (by rfl) (qaa (pv 0) (qaa (pv 1) qab))))
   (qaf (qai (qaY (N:=["k", "many", "table"]) (nt:=1) (caps:=[0,2]) qaJ rfl (qaQ (by rfl) T.n_range (qaa (pv 0) qab)) (fun _ _ _ _ _=>(qau (i:=0) (show List.Nodup (α:=Str) ["k", "many", "table"] from by decide +kernel) rfl (Or.inl rfl))) qaO (fun _ _ _ _ _=>qaZ) (fun _ _ _ _ _=>(qah C_30 hr (by decide) (by rfl) (qaa (pv 1) (qaa (pv 2) (qaa (pv 0) qab))))))))),?_⟩
 refine rdg (σ':=[some x0,some x1,none]) rfl ?_
 obtain ⟨m,p,fs,rfl,hm,rfl,f1,q⟩:=h
 walk_at "rd"
 refine ⟨_,_,rfl,m,p,fs,rfl,hm,rfl,f1,fun G1 p1 hp1 t1 a1=>?_⟩
 (try walk_at "rd")
 refine ⟨by omega,by omega,?_⟩
 rw [Int.toNat_natCast]
 refine qdb (fun _=>true) (fun k => .int (Fam.trn m (Fam.sayP fs) k:Nat)) (by omega) (fun k hk H1 sm R R' r1 r2=>?_) fun H1 p2 sm hp=>?_
 · (try walk_at "rd")
   exact ⟨_,_,_,rfl,m,p1,_,k,rfl,hm,rfl,sm _ _ a1,rfl,hk,fun H2 s2=>r1 rfl _ s2⟩
 have e:((List.range m).filter fun _=>true).map (fun k=>V.int (Fam.trn m (Fam.sayP fs) k:Nat))=nV (Fam.trns m (Fam.sayP fs)):=by
   rw [List.filter_eq_self.mpr fun _ _=>rfl]
   simp [Fam.trns]
 rw [e]
 have t2:=t1.trans sm
 exact q _ p2 (qaB t2 hp) (t2.trans (Same.new hp)) qak
abbrev qa5:Stmt:=top 35
theorem qcI:qao ["numbers"] ["numbers"] (qac qa5):=⟨rfl,rfl,rfl,by decide +kernel,rfl,by decide +kernel,by decide +kernel⟩
def qsW (ns:List Nat):Str:=_root_.PySem.Txt.join " " (ns.map fun n=>Str.ofString (toString ((n:Nat):Int)))
theorem qpn:∀n,n≤256→(Str.ofString (toString ((n:Nat):Int))).length≤3:=by
 have:∀n,n<257→(Str.ofString (toString ((n:Nat):Int))).length≤3:=by decide +kernel
 exact fun n h=>this n (by omega)
def qfC (K:W.Frag):Sp:=sp1 fun x H Q=>∃(p:Addr) (ns:List Nat),x = .ref p∧H p=some (.lst (nV ns))∧ns.length≤9∧(∀n∈ns,n≤256)∧∀H',Same H H'→Q (.str (qsW ns)) H'
theorem qfA {f:Addr} {fd:FuncData} (F:Fun K "show_numbers" "show_numbers" qa5 f fd) (T:Txt mg)  : qa1 P w K mg base CX0 1 f fd ["numbers"] (qfC K):=by
 have sc:=qcI
 refine F.ok qcI (fun vs H Q E h=>by obtain ⟨_,rfl,_⟩:=h;rfl) (fun cdv A outer s H vs Q E hr h=>?_)
 obtain ⟨x0,rfl,h⟩:=h
 refine ⟨_,(qaf (qai (qb8 PySem.F.plainAttrs_str PySem.F.slot_str_join PySem.F.type_str_join (qce (K:=K) rfl) qaj (qaa (qaY (N:=["number"]) (nt:=1) (caps:=[]) qaJ rfl (qaL (pv 0)) (fun _ _ _ _ _=>(qau (i:=0) (show List.Nodup (α:=Str) ["number"] from by decide +kernel) rfl (Or.inl rfl))) qaO (fun _ _ _ _ _=>qaZ) (fun _ _ _ _ _=>(qcn qhk (by rfl) T.n_str PyProof.Rows.boot_str (qaa (pv 0) qab)))) qab)))),?_⟩
 refine rdg (σ':=[some x0]) rfl ?_
 obtain ⟨p,ns,rfl,f1,hl,hn,q⟩:=h
 walk_at "rd"
 refine ⟨rfl,⟨_,SqL.of f1⟩,qer (fs:=ns) (fun _=>true) (fun n => .str (Str.ofString (toString ((n:Nat):Int)))) (SqL.of f1) (by omega) (fun n hm H2 s2 R R' r1 r2=>?_) fun H2 p3 s2 hp3=>?_⟩
 · (try walk_at "rd")
   have:=hn n hm
   exact ⟨by rw [Int.natAbs_natCast];exact Nat.lt_of_le_of_lt (Nat.log2_le_self n) (by omega),r1 rfl _ (Same.refl _)⟩
 · rw [List.filter_eq_self.mpr fun _ _=>rfl]
   rw [qel]
   refine ⟨_,p3,_,rfl,rfl,SqL.of qak,qbn (M:=3) (N:=9) (fun y hy=>?_) (by rw [List.length_map];exact hl) (by rw [Tx.lit_space];decide) (by decide),q _ (s2.trans (Same.new hp3))⟩
   obtain ⟨n,hm,rfl⟩:=List.mem_map.mp hy
   exact qpn n (hn n hm)
abbrev qaG:Stmt:=top 36
theorem qbQ:qao ["words", "told"] ["words", "told"] (qac qaG):=⟨rfl,rfl,rfl,by decide +kernel,rfl,by decide +kernel,by decide +kernel⟩
theorem qoZ (as:List Nat) (i:Nat):(nV as)[i]?=(as[i]?).map fun b=>V.int (b:Nat):=by
 rw [nV,nI,List.map_map,List.getElem?_map]
 rfl
theorem qqp {K:W.Frag} {g:TG} {σ:L2.St} {H:Hp} {a:Addr} {nt:Nat} {caps:List Nat} {tt:TT} {te:TE} {Q:VK} {as:List Nat} (f:Nat→V) (hq:H a=some (.tup (nV as))) (hz:as.length≤100000)
   (hs:∀x∈as,∀H1,Same H H1→∀(R:VK) (R':Hp→Prop),(∀H2,Same H1 H2→R (f x) H2)→g (.int (x:Nat)) (qcf nt caps σ) H1 fun σ4 H4=>tt σ4 H4 fun b H5=>if b=true then te σ4 H5 R else R' H5)
   (hd:∀H1 p,Same H H1→H1 p=none→Q (.ref p) (upd H1 p (.lst (as.map f)))):qdL (Itt K a) nt caps g tt te σ H Q:=by
 refine ⟨fun i m ys H1=>m=as.length-i∧i≤as.length∧ys=(as.take i).map f∧Same H H1,⟨_,rfl,Nat.zero_le _,rfl,Same.refl _⟩,?_⟩
 rintro i m ys H2 ⟨rfl,hi,rfl,s2⟩
 have hq2:SqT K H2 a (nV as):=SqT.of (s2 _ _ hq)
 by_cases hlt:i<as.length
 · refine .inr ⟨⟨nV as,.int (as[i]:Nat),hq2,by rw [qoZ,List.getElem?_eq_getElem hlt];rfl⟩,Nat.le_trans (by rw [List.length_map,List.length_take];omega) (show 100000≤sizeLine by decide),fun x H3 y=>?_⟩
   obtain ⟨e,y⟩:=y
   subst e
   have hx:=y _ hq2
   rw [qoZ,List.getElem?_eq_getElem hlt] at hx
   cases hx
   refine hs as[i] (List.getElem_mem hlt) _ s2 _ _ fun H4 s4=>⟨as.length-(i+1),by omega,rfl,hlt,?_,s2.trans s4⟩
   rw [List.take_add_one,List.getElem?_eq_getElem hlt,List.map_append]
   rfl
 · obtain rfl:i=as.length:=by omega
   exact .inl ⟨⟨nV as,hq2,by rw [qbV];exact Nat.le_refl _⟩,Nat.le_trans (by rw [List.length_map,List.length_take];omega) (show 100000≤sizeLine by decide),fun p hp=>by rw [List.take_length];exact hd H2 p s2 hp⟩
def wsT (ws:List Str) (d:Str) (as:List Nat):Str:=_root_.PySem.Txt.join " " (d::as.map (Tx.sT ws))
def qgy (K:W.Frag):Sp:=sp2 fun x y H Q=>∃(p t:Addr) (ws:List Str) (d:Str) (as:List Nat),x = .ref p∧H p=some (.lst (sV ws))∧Tx.Wds ws∧y = .ref t∧H t=some (.tup (.str d::nV as))∧d.length≤8∧as.length≤8∧(∀a∈as,a<2^ws.length)∧∀H',Same H H'→Q (.str (wsT ws d as)) H'
theorem qcP {f:Addr} {fd:FuncData} (F:Fun K "show_word_and_sets" "show_word_and_sets" qaG f fd) (T:Txt mg) {f_34:Addr} {fd_34:FuncData} (C_34:Cal P w K mg base "show_set" 2 ["words", "one"] (qcE K) f_34 fd_34):qa1 P w K mg base CX0 3 f fd ["words", "told"] (qgy K):=by
 have sc:=qbQ
 refine F.ok qbQ (fun vs H Q E h=>by obtain ⟨_,_,rfl,_⟩:=h;rfl) (fun cdv A outer s H vs Q E hr h=>?_)
 obtain ⟨x0,x1,rfl,h⟩:=h
 refine ⟨_,(qaf (qai (qb8 PySem.F.plainAttrs_str PySem.F.slot_str_join PySem.F.type_str_join (qce (K:=K) rfl) qaj (qaa (qar (qg1 (K:=K) rfl) (qa2 (qaa (qba (qcB (K:=K) rfl) (pv 1) qag (fun _ _=>rfl)) qab)) (qaY (N:=["one", "words"]) (nt:=1) (caps:=[0]) qaJ rfl (qre (qc0 (qo5 (K:=K) rfl) (pv 1) (qd3 qag) qd2)) (fun _ _ _ _ _=>(qau (i:=0) (show List.Nodup (α:=Str) ["one", "words"] from by decide +kernel) rfl (Or.inl rfl))) qaO (fun _ _ _ _ _=>qaZ) (fun _ _ _ _ _=>(qah C_34 hr (by decide) (by rfl) (qaa (pv 1) (qaa (pv 0) qab)))))) qab)))),?_⟩
 refine rdg (σ':=[some x0,some x1]) rfl ?_
 obtain ⟨p,t,ws,d,as,rfl,f1,hw,rfl,f2,hd,hl,hb,q⟩:=h
 walk_at "rd"
 refine ⟨rfl,qkk (SqT.of f2) (qdg (j:=0) rfl) ⟨qaH (by simp),fun p1 hp1=>?_⟩⟩
 generalize g1:upd H p1 _=G1
 have a1:=qaw g1
 have s1:=qaq g1 hp1
 refine ⟨t,_,rfl,SqT.of (s1 _ _ f2),?_,fun p2 hp2=>?_⟩
 · rw [show (1:Int)=((1:Nat):Int) from rfl,HT.sIx_nat,List.length_cons]
   omega
 rw [show (1:Int)=((1:Nat):Int) from rfl,qgw,List.drop_succ_cons,List.drop_zero]
 generalize g2:upd G1 p2 _=G2
 have a2:=qaw g2
 have s2:=s1.trans (qaq g2 hp2)
 have a1:=qaq g2 hp2 _ _ a1
 refine ⟨p2,rfl,⟨_,SqT.of a2⟩,qqp (fun b => .str (Tx.sT ws b)) a2 (by omega) (fun b hb' H3 s3 R R' r1=>?_) fun H3 p3 s3 hp3=>?_⟩
 · (try walk_at "rd")
   exact ⟨_,_,rfl,p,ws,b,rfl,s3 _ _ (s2 _ _ f1),hw,rfl,hb b hb',fun H4 s4=>r1 _ s4⟩
 rw [qel]
 generalize g3:upd H3 p3 _=G3
 have a3:=qaw g3
 have s3':=s3.trans (qaq g3 hp3)
 refine ⟨p1,p3,_,_,rfl,rfl,SqL.of (s3' _ _ a1),SqL.of a3,Nat.le_trans (by simp;omega) (show 100000≤sizeLine by decide),fun p4 hp4=>?_⟩
 refine ⟨_,p4,d::as.map (Tx.sT ws),rfl,rfl,SqL.of qak,qbn (M:=72) (N:=9) (fun y hy=>?_) (by simp;omega) (by rw [Tx.lit_space];decide) (by decide),q _ ((s2.trans s3').trans (Same.new hp4))⟩
 rcases List.mem_cons.mp hy with rfl | hy
 · omega
 obtain ⟨b,hb',rfl⟩:=List.mem_map.mp hy
 exact Tx.sT_len hw (hb b hb')
abbrev qbh:Stmt:=top 37
theorem qc4:qao ["words", "told"] ["words", "told"] (qac qbh):=⟨rfl,rfl,rfl,by decide +kernel,rfl,by decide +kernel,by decide +kernel⟩
def lkT (ws:List Str) (fs:List Nat) (a k:Nat):Str:=ws.getD k Str.empty++Str.ofString ":" ++ Tx.sT ws ((qdX fs a k).getD 0)
def qo9 (K:W.Frag):Sp:=sp2 fun x y H Q=>∃(p t:Addr) (ws:List Str),x = .ref p∧H p=some (.lst (sV ws))∧Tx.Wds ws∧y = .ref t ∧
 ∃(p':Addr) (ps:List Addr) (fs:List Nat) (a:Nat),H t=some (.tup [.str "least",.ref p'])∧H p'=some (.lst (ps.map V.ref))∧Rows H fs a (Fam.nms 8 a) ps∧a<2^ws.length∧(∀b∈fs,b<2^ws.length)∧∀H',Same H H'→Q (.str (_root_.PySem.Txt.join " " (("least" : Str)::(Fam.nms 8 a).map (lkT ws fs a)))) H'
theorem qfV {f:Addr} {fd:FuncData} (F:Fun K "show_looked" "show_looked" qbh f fd) (T:Txt mg) {f_01:Addr} {fd_01:FuncData} (C_01:Cal P w K mg base "show_word_and_sets" 3 ["words", "told"] (qgy K) f_01 fd_01) {f_34:Addr} {fd_34:FuncData} (C_34:Cal P w K mg base "show_set" 2 ["words", "one"] (qcE K) f_34 fd_34):qa1 P w K mg base CX0 4 f fd ["words", "told"] (qo9 K):=by
 have sc:=qc4
 refine F.ok qc4 (fun vs H Q E h=>by obtain ⟨_,_,rfl,_⟩:=h;rfl) (fun cdv A outer s H vs Q E hr h=>?_)
 obtain ⟨x0,x1,rfl,h⟩:=h
 refine ⟨_,(qad (qaz (qap (qaC (K:=K) rfl hr.units0) (qba (qcB (K:=K) rfl) (pv 1) qag (fun _ _=>rfl)) qaj (qas _)) (qaf (qai (qar qaM qaj (qba (qcB (K:=K) rfl) (pv 0) (qba (qcB (K:=K) rfl) (pv 1) qag (fun _ _=>rfl)) (fun _ _=>rfl))))) qal)
   (qad (qaz (qap (qaC (K:=K) rfl hr.units0) (qba (qcB (K:=K) rfl) (pv 1) qag (fun _ _=>rfl)) qaj (qas _)) (qaf (qai (qah C_01 hr (by decide) (by rfl) (qaa (pv 0) (qaa (pv 1) qab))))) qal)
   (qaf (qai (qb8 PySem.F.plainAttrs_str PySem.F.slot_str_join PySem.F.type_str_join (qce (K:=K) rfl) qaj (qaa (qar (qg1 (K:=K) rfl) (qa2 (qaa qaj qab)) (qaY (N:=["k", "other", "words"]) (nt:=2) (caps:=[0]) qaJ rfl (qaL (qba (qcB (K:=K) rfl) (pv 1) qag (fun _ _=>rfl))) (fun _ _ _ _ _=>(qol (n:=2) rfl (qeH (qau (i:=0) (show List.Nodup (α:=Str) ["k", "other", "words"] from by decide +kernel) rfl (Or.inl rfl)) (qeH (qau (i:=1) (show List.Nodup (α:=Str) ["k", "other", "words"] from by decide +kernel) rfl (Or.inl rfl)) qlW)))) qoi (fun _ _ _ _ _=>qaZ) (fun _ _ _ _ _=>(qar qaM (qar qaM (qba (qcB (K:=K) rfl) (pv 2) (pv 0) (fun _ _=>rfl)) qaj) (qah C_34 hr (by decide) (by rfl) (qaa (pv 2) (qaa (pv 1) qab))))))) qab)))))),?_⟩
 refine rdg (σ':=[some x0,some x1]) rfl ?_
 obtain ⟨p,t,ws,rfl,f1,hw,rfl,p',ps,fs,a,f2,f3,hr,ha,hb,q⟩:=h
 walk_at "rd"
 have n1:¬("least" : Str)=Str.ofString "spare" := by decide +kernel
 have n2:¬("least" : Str)=Str.ofString "misses" := by decide +kernel
 have e1:decide (V.str ("least" : Str)=V.str (Str.ofString "spare"))=false:=decide_eq_false fun e=>n1 (V.str.inj e)
 have e2:decide (V.str ("least" : Str)=V.str (Str.ofString "misses"))=false:=decide_eq_false fun e=>n2 (V.str.inj e)
 have gk:∀k∈Fam.nms 8 a,k<ws.length:=fun k hk=>Tx.nms_lt ha hk
 have gw:∀k,k<ws.length→ws[k]?=some (ws.getD k Str.empty):=fun k hk=>by rw [List.getD_eq_getElem?_getD,List.getElem?_eq_getElem hk];rfl
 have gl:∀k,k<ws.length→(ws.getD k Str.empty).length≤8:=fun k hk=>(hw.wd _ (List.mem_of_getElem? (gw k hk))).2.1
 have gc:(Str.ofString ":").length=1:=by decide +kernel
 have gs:∀k,k<ws.length→(ws.getD k Str.empty++Str.ofString ":").length≤9:=fun k hk=>by
   rw [Str.length_append,gc]
   have:=gl k hk
   omega
 refine qkk (SqT.of f2) (qdg (j:=0) rfl) ⟨_,.inl ⟨rfl,rfl⟩,⟨false,congrArg V.bl e1,qeO (qkk (SqT.of f2) (qdg (j:=0) rfl) ⟨_,.inl ⟨rfl,rfl⟩,⟨false,congrArg V.bl e2,qeO ⟨rfl,qaH (by simp),fun p1 hp1=>?_⟩⟩⟩)⟩⟩
 generalize g1:upd H p1 _=G1
 have a1:=qaw g1
 have s1:=qaq g1 hp1
 have l8:(Fam.nms 8 a).length≤8:=Nat.le_trans (List.length_filter_le _ _) (by simp)
 have lp:=hr.1
 refine qkk (SqT.of (s1 _ _ f2)) (qdg (j:=1) rfl) ⟨p',rfl,⟨_,SqL.of (s1 _ _ f3)⟩,ql3 (xs:=ps.map V.ref) (fun i ys H1=>Same G1 H1∧ys=sV (((Fam.nms 8 a).take i).map (lkT ws fs a))) ⟨Same.refl _,rfl⟩ (Nat.le_trans (by rw [List.length_map];omega) (show 100000≤sizeLine by decide)) (fun i ys H1 hi h=>⟨SqL.of (h.1 _ _ (s1 _ _ f3)),by rw [h.2,qbo,List.length_map,List.length_take];omega⟩) (fun i x ys H1 hx h R R' r1 r2=>?_) fun ys H1 h p3 hp3=>?_⟩
 · obtain ⟨s3,rfl⟩:=h
   rw [List.getElem?_map] at hx
   cases er:ps[i]? with
   | none=>rw [er] at hx;cases hx
   | some r =>
     rw [er] at hx
     cases hx
     have hi:i<(Fam.nms 8 a).length:=by
       have:=(List.getElem?_eq_some_iff.mp er).1
       omega
     obtain ⟨o,eo,ho⟩:=hr.2 i _ r (List.getElem?_eq_getElem hi) er
     (try walk_at "rd")
     have hk:=List.getElem_mem hi
     have ob:=hb o (List.mem_of_find?_eq_some eo)
     generalize ek:(Fam.nms 8 a)[i]=k at eo ho hk
     have kl:=gk k hk
     have z1:=gl k kl
     have z2:=gs k kl
     have z3:=Tx.sT_len hw ob
     have zz:100000≤sizeLine:=by decide
     refine ⟨_,SqT.of (s3 _ _ (s1 _ _ ho)),rfl,_,_,rfl,_,_,rfl,rfl,qbl (SqL.of (s3 _ _ (s1 _ _ f1))) (qhG (gw k kl)) ⟨_,rfl,by omega,_,_,rfl,p,ws,o,rfl,s3 _ _ (s1 _ _ f1),hw,rfl,ob,fun H4 s4=>⟨_,rfl,by omega,r1 _ _ ⟨s3.trans s4,?_⟩⟩⟩⟩
     rw [List.take_add_one,List.getElem?_eq_getElem hi,ek,List.map_append]
     show _=List.map V.str (_++_)
     rw [List.map_append]
     show _=_++[V.str (lkT ws fs a k)]
     unfold lkT
     rw [eo]
     rfl
 obtain ⟨s3,rfl⟩:=h
 generalize g3:upd H1 p3 _=G3
 have a3:=qaw g3
 have s3':=s3.trans (qaq g3 hp3)
 rw [List.length_map,lp,List.take_length] at a3
 refine ⟨p1,p3,_,_,rfl,rfl,SqL.of (s3' _ _ a1),SqL.of a3,Nat.le_trans (by simp;omega) (show 100000≤sizeLine by decide),fun p4 hp4=>?_⟩
 refine ⟨_,p4,("least" : Str)::(Fam.nms 8 a).map (lkT ws fs a),rfl,rfl,SqL.of qak,qbn (M:=100) (N:=9) (fun y hy=>?_) (by simp;omega) (by rw [Tx.lit_space];decide) (by decide),q _ ((s1.trans s3').trans (Same.new hp4))⟩
 rcases List.mem_cons.mp hy with rfl | hy
 · decide +kernel
 obtain ⟨k,hk,rfl⟩:=List.mem_map.mp hy
 have kl:=gk k hk
 have z2:=gs k kl
 obtain ⟨j,hj,ej⟩:=List.getElem_of_mem hk
 obtain ⟨o,eo,ho⟩:=hr.2 j k (ps[j]'(by omega)) (by rw [List.getElem?_eq_getElem hj,ej]) (List.getElem?_eq_getElem _)
 unfold lkT
 rw [Str.length_append,eo]
 have z3:=Tx.sT_len hw (hb o (List.mem_of_find?_eq_some eo))
 show _+(Tx.sT ws o).length≤_
 omega
abbrev qd5:Stmt:=top 58
theorem qnu:qao ["many", "family", "table", "x", "y", "told"] ["many", "family"] (qac qd5):=⟨rfl,rfl,rfl,by decide +kernel,rfl,by decide +kernel,by decide +kernel⟩
theorem qm9 {f:Addr} {fd:FuncData} (F:Fun K "ranks" "ranks" qd5 f fd) (T:Txt mg):qa1 P w K mg base CX0 1 f fd ["many", "family"] qih:=F.ok qnu (fun vs H Q E h=>absurd h id) (fun cdv A outer s H vs Q E hr h=>absurd h id)
abbrev qbv:Stmt:=top 38
theorem qgC:qao ["words", "told"] ["words", "told"] (qac qbv):=⟨rfl,rfl,rfl,by decide +kernel,rfl,by decide +kernel,by decide +kernel⟩
theorem qgq {f:Addr} {fd:FuncData} (F:Fun K "show_ranks" "show_ranks" qbv f fd) (T:Txt mg):qa1 P w K mg base CX0 1 f fd ["words", "told"] qih:=F.ok qgC (fun vs H Q E h=>absurd h id) (fun cdv A outer s H vs Q E hr h=>absurd h id)
abbrev qbB:Stmt:=top 69
theorem qgM:qao ["many", "family", "told"] ["many", "family"] (qac qbB):=⟨rfl,rfl,rfl,by decide +kernel,rfl,by decide +kernel,by decide +kernel⟩
theorem qgR {f:Addr} {fd:FuncData} (F:Fun K "by_weights" "by_weights" qbB f fd) (T:Txt mg):qa1 P w K mg base CX0 1 f fd ["many", "family"] qih:=F.ok qgM (fun vs H Q E h=>absurd h id) (fun cdv A outer s H vs Q E hr h=>absurd h id)
abbrev qa4:Stmt:=top 40
theorem qe0:qao ["words", "told", "yes", "no"] ["words", "told"] (qac qa4):=⟨rfl,rfl,rfl,by decide +kernel,rfl,by decide +kernel,by decide +kernel⟩
theorem qfn {f:Addr} {fd:FuncData} (F:Fun K "show_weights" "show_weights" qa4 f fd) (T:Txt mg):qa1 P w K mg base CX0 1 f fd ["words", "told"] qih:=F.ok qe0 (fun vs H Q E h=>absurd h id) (fun cdv A outer s H vs Q E hr h=>absurd h id)
abbrev qaN:Stmt:=top 83
theorem qdI:qao ["many", "family", "x", "y"] ["many", "family", "x", "y"] (qac qaN):=⟨rfl,rfl,rfl,by decide +kernel,rfl,by decide +kernel,by decide +kernel⟩
theorem qdq {f:Addr} {fd:FuncData} (F:Fun K "compared_unlike" "compared_unlike" qaN f fd) (T:Txt mg):qa1 P w K mg base CX0 1 f fd ["many", "family", "x", "y"] qih:=F.ok qdI (fun vs H Q E h=>absurd h id) (fun cdv A outer s H vs Q E hr h=>absurd h id)
abbrev qb7:Stmt:=top 80
theorem qfo:qao ["word"] ["word"] (qac qb7):=⟨rfl,rfl,rfl,by decide +kernel,rfl,by decide +kernel,by decide +kernel⟩
def qfK:Sp:=sp1 fun x H Q=>∃w:Str,x = .str w∧Tx.Wd w∧∀H',Same H H'→Q (.str w) H'
theorem qiZ {f:Addr} {fd:FuncData} (F:Fun K "new_name" "new_name" qb7 f fd) (T:Txt mg) {f_42:Addr} {fd_42:FuncData} (C_42:Cal P w K mg base "is_word" 1 ["text"] qeJ f_42 fd_42):qa1 P w K mg base CX0 2 f fd ["word"] qfK:=by
 have sc:=qfo
 refine F.ok qfo (fun vs H Q E h=>by obtain ⟨_,rfl,_⟩:=h;rfl) (fun cdv A outer s H vs Q E hr h=>?_)
 obtain ⟨x0,rfl,h⟩:=h
 refine ⟨_,(qad (qaz (qbk (qa3 (qah C_42 hr (by decide) (by rfl) (qaa (pv 0) qab)))) (qaf qbs) qal)
   (qaf (qai (pv 0)))),?_⟩
 refine rdg (σ':=[some x0]) rfl ?_
 obtain ⟨w,rfl,hw,q⟩:=h
 walk_at "rd"
 exact ⟨_,rfl,w,rfl,hw,fun H' s'=>⟨true,rfl,by rw [if_neg (by decide)];exact q _ s'⟩⟩
abbrev qb4:Stmt:=top 79
theorem qe5:qao ["row", "deed", "parts"] ["row"] (qac qb4):=⟨rfl,rfl,rfl,by decide +kernel,rfl,by decide +kernel,by decide +kernel⟩
def qe1 (K:W.Frag):Sp:=sp1 fun x H Q=>∃(z d:Str) (r ks:List Str),x = .str z∧Prt z d r ks∧∀p H',H p=none→Same H H'→H' p=some (.lst (sV (d::r)))→Q (.ref p) H'
theorem qiX {f:Addr} {fd:FuncData} (F:Fun K "parts_of" "parts_of" qb4 f fd) (T:Txt mg) {cD aW:Addr} (Z:Xt P w K mg cD aW)  : qa1 P w K mg base CX0 1 f fd ["row"] (qe1 K):=by
 have sc:=qe5
 refine F.ok qe5 (fun vs H Q E h=>by obtain ⟨_,rfl,_⟩:=h;rfl) (fun cdv A outer s H vs Q E hr h=>?_)
 obtain ⟨x0,rfl,h⟩:=h
 refine ⟨_,(qad (qaz (qbk (qa3 (qaA qca (by rfl) T.n_isinstance PyProof.Rows.boot_isinstance (qaa (pv 0) (qaa (qe7 (v := .ty "str") (by rfl) T.n_str PyProof.Rows.boot_str rfl) qab))))) (qaf qbs) qal)
   (qad (qay (i:=1) sc.nd rfl (Or.inl rfl) (qba (qcB (K:=K) rfl) (qb8 PySem.F.plainAttrs_str PySem.F.slot_str_split PySem.F.type_str_split qdE (pv 0) (qaa qaj qab)) qag (fun _ _=>rfl)))
   (qad (qaz (qlO (qoV (P:=P) (w:=w) (K:=K) rfl rfl rfl (pv 1) (qea (v := .ref aW) (by rfl) Z.gW rfl)) (by with_unfolding_all rfl)) (qaf qbs) qal)
   (qad (qay (i:=2) sc.nd rfl (Or.inl rfl) (qjz (qap (qaC (K:=K) rfl hr.units0) (pv 1) qaj (qas _)) (qb8 PySem.F.plainAttrs_str PySem.F.slot_str_split PySem.F.type_str_split qli (pv 0) (qaa qaj (qaa qag qab))) (qb8 PySem.F.plainAttrs_str PySem.F.slot_str_split PySem.F.type_str_split qdE (pv 0) (qaa qaj qab))))
   (qad (qaz (qap (qdz (K:=K) rfl hr.units0) (qaA (qaT (K:=K) rfl) (by rfl) T.n_len PySem.boot_len (qaa (pv 2) qab)) (qar qbz (qaA (qaT (K:=K) rfl) (by rfl) T.n_len PySem.boot_len (qaa (qiJ (P:=P) (w:=w) (K:=K) rfl rfl rfl (qea (v := .ref aW) (by rfl) Z.gW rfl) (pv 1) (fun _ _=>rfl)) qab)) qag) (qas _)) (qaf qbs) qal)
   (qaf (qai (pv 2)))))))),?_⟩
 refine rdg (σ':=[some x0,none,none]) rfl ?_
 obtain ⟨z,d,r,ks,rfl,hP,q⟩:=h
 obtain ⟨kvs,kd1,kd2⟩:=Z.wn.kv
 obtain ⟨t,vt,ht⟩:=kd2 d ks hP.kd
 have hz:=hP.sz
 have hln:=hP.ln
 walk_at "rd"
 refine ⟨_, "str",⟨rfl,rfl⟩, "str",rfl,by decide,?_⟩
 rw [if_neg (by decide)]
 refine ⟨rfl,z,_,rfl,rfl,by rw [Tx.lit_space];rfl,by omega,fun p1 hp1=>?_⟩
 generalize g1:upd H p1 _=G1
 have a1:=qaw g1
 have s1:=qaq g1 hp1
 refine qbl (SqL.of a1) (qhG hP.hd) ⟨kvs,Sum.inr d,rfl,kd1,false,by rw [vt];rfl,?_⟩
 rw [if_neg (by decide)]
 (try walk_at "rd")
 have hps:=hP.ps
 by_cases hl:d=("let" : Str)
 · rw [if_pos hl] at hps
   rw [if_pos hl]
   refine ⟨rfl,z,_,2,rfl,rfl,by rw [Tx.lit_space];rfl,by omega,by decide,fun p2 hp2=>?_⟩
   rw [show _root_.PySem.Txt.splitMax z " " ((2:Nat):Int)=d::r from hps]
   refine ⟨p2,rfl,_,.inl (SqL.of qak),kvs,Sum.inr d,rfl,kd1,_,vt,t,rfl,_,.inr (ht _),?_⟩
   rw [qbo,qbo,List.length_cons]
   exact ⟨false,by rw [decide_eq_true (by omega)];rfl,qeO (q p2 _ (qaB s1 hp2) (s1.trans (Same.new hp2)) qak)⟩
 · rw [if_neg hl] at hps
   rw [if_neg hl]
   refine ⟨rfl,z,_,rfl,rfl,by rw [Tx.lit_space];rfl,by omega,fun p2 hp2=>?_⟩
   rw [hps]
   refine ⟨p2,rfl,_,.inl (SqL.of qak),kvs,Sum.inr d,rfl,kd1,_,vt,t,rfl,_,.inr (ht _),?_⟩
   rw [qbo,qbo,List.length_cons]
   exact ⟨false,by rw [decide_eq_true (by omega)];rfl,qeO (q p2 _ (qaB s1 hp2) (s1.trans (Same.new hp2)) qak)⟩
abbrev qaV:Stmt:=qfb (top 78) 0
theorem qcv:qao ["self", "text"] ["self", "text"] (qac qaV):=⟨rfl,rfl,rfl,by decide +kernel,rfl,by decide +kernel,by decide +kernel⟩
def qlr (cD:Addr):Sp:=sp2 fun x y H Q=>∃(d dx:Addr) (ws:List Str),x = .ref d∧H d=some (.ins cD dx [])∧y = .str (_root_.PySem.Txt.join " " ws)∧Tx.Wds ws∧∀pk H',H pk=none→qcA cD H' d pk ws []→SmB d H H'→Q .non H'
theorem qeF {f:Addr} {fd:FuncData} (F:Fun K "__init__" "Desk.__init__" qaV f fd) (T:Txt mg) {cD aW:Addr} (Z:Xt P w K mg cD aW) {f_18:Addr} {fd_18:FuncData} (C_18:Cal P w K mg base "read_names" 2 ["text"] (qdm K) f_18 fd_18):qa1 P w K mg base CX0 3 f fd ["self", "text"] (qlr cD):=by
 have sc:=qcv
 refine F.ok qcv (fun vs H Q E h=>by obtain ⟨_,_,rfl,_⟩:=h;rfl) (fun cdv A outer s H vs Q E hr h=>?_)
 obtain ⟨x0,x1,rfl,h⟩:=h
 refine ⟨_,(qad (qnY (pv 0) (qah C_18 hr (by decide) (by rfl) (qaa (pv 1) qab)) rfl)
   (qaf (qnY (pv 0) qmF rfl))),?_⟩
 refine rdg (σ':=[some x0,some x1]) rfl ?_
 obtain ⟨d,dx,ws,rfl,hd,rfl,hw,q⟩:=h
 walk_at "rd"
 refine ⟨_,rfl,ws,rfl,hw,fun pw H1 hpw s1 a1=>?_⟩
 (try walk_at "rd")
 have npd:pw≠d:=fun e=>by rw [e,hd] at hpw;cases hpw
 refine ⟨cD,dx,[],s1 _ _ hd,Z.cl,Z.nw,by decide,fun pk hpk=>?_⟩
 have nkd:pk≠d:=fun e=>by rw [e,qak] at hpk;cases hpk
 rw [qax nkd] at hpk
 have nkw:pk≠pw:=fun e=>by rw [e,a1] at hpk;cases hpk
 refine ⟨cD,dx,_,by rw [qax (Ne.symm nkd),qak],Z.cl,Z.nk,by show 1<1000;decide,?_⟩
 rw [qnq]
 refine q pk _ (qaB s1 hpk) ⟨⟨dx,pw,qak,by rw [qax npd,qax (Ne.symm nkw),qax npd];exact a1⟩,⟨[],by rw [qax nkd,qak],rfl,fun n=>rfl⟩,hw,fun n fs h=>(by cases h),by decide⟩ fun b o e hb=>?_
 rw [qax hb,qax (qa8 (s1 _ _ e) hpk),qax hb]
 exact s1 _ _ e
abbrev qaS:Stmt:=qfb (top 78) 3
theorem qci:qao ["self", "word"] ["self", "word"] (qac qaS):=⟨rfl,rfl,rfl,by decide +kernel,rfl,by decide +kernel,by decide +kernel⟩
def qij (cD:Addr):Sp:=sp2 fun x y H Q=>∃(d pk:Addr) (ws:List Str) (m:List (Str×List Nat)) (n:Str) (fs:List Nat),x = .ref d∧qcA cD H d pk ws m∧y = .str n∧m.lookup n=some fs∧∀p,H p=some (.lst (nV fs))→Q (.ref p) H
theorem qd6 {f:Addr} {fd:FuncData} (F:Fun K "family_by" "Desk.family_by" qaS f fd) (T:Txt mg) {cD aW:Addr} (Z:Xt P w K mg cD aW)  : qa1 P w K mg base CX0 1 f fd ["self", "word"] (qij cD):=by
 have sc:=qci
 refine F.ok qci (fun vs H Q E h=>by obtain ⟨_,_,rfl,_⟩:=h;rfl) (fun cdv A outer s H vs Q E hr h=>?_)
 obtain ⟨x0,x1,rfl,h⟩:=h
 refine ⟨_,(qad (qaz (qlO (qhz (qnp hr) (pv 1) (qc8 (pv 0) rfl)) (by with_unfolding_all rfl)) (qaf qbs) qal)
   (qaf (qai (qoM (qnp hr) (qc8 (pv 0) rfl) (pv 1) (fun _ _=>rfl))))),?_⟩
 refine rdg (σ':=[some x0,some x1]) rfl ?_
 obtain ⟨d,pk,ws,m,n,fs,rfl,D,rfl,hn,q⟩:=h
 obtain ⟨dx,pw,o1,o2⟩:=D.ob
 obtain ⟨kvs,k1,k2⟩:=D.dc
 obtain ⟨p,v1,v2⟩:=k2.get hn
 walk_at "rd"
 refine ⟨cD,dx,_,o1,Z.cl,Z.nk,_,qhC _ _,pk,rfl,_,qlu.k (k:=Sum.inr n) k1,false,by rw [v1];rfl,qeO ?_⟩
 exact ⟨cD,dx,_,o1,Z.cl,Z.nk,_,qhC _ _,pk,rfl,_,(by have:=qlu.k (k:=Sum.inr n) k1;rw [v1] at this;exact this),q p v2⟩
abbrev qaF:Stmt:=qfb (top 78) 4
theorem qbR:qao ["self", "name"] ["self", "name"] (qac qaF):=⟨rfl,rfl,rfl,by decide +kernel,rfl,by decide +kernel,by decide +kernel⟩
def qlt (cD:Addr):Sp:=sp2 fun x y H Q=>∃(d pk:Addr) (ws:List Str) (m:List (Str×List Nat)) (n:Str),x = .ref d∧qcA cD H d pk ws m∧y = .str n∧(m.lookup n≠none∨m.length<20)∧Q .non H
theorem qcR {f:Addr} {fd:FuncData} (F:Fun K "look_for_room" "Desk.look_for_room" qaF f fd) (T:Txt mg) {cD aW:Addr} (Z:Xt P w K mg cD aW)  : qa1 P w K mg base CX0 1 f fd ["self", "name"] (qlt cD):=by
 have sc:=qbR
 refine F.ok qbR (fun vs H Q E h=>by obtain ⟨_,_,rfl,_⟩:=h;rfl) (fun cdv A outer s H vs Q E hr h=>?_)
 obtain ⟨x0,x1,rfl,h⟩:=h
 refine ⟨_,(qaf (qaz (PW.pt (qht (qlO (qhz (qnp hr) (pv 1) (qc8 (pv 0) rfl)) (by with_unfolding_all rfl)) (qfT (qap qsD (qaA qlh (by rfl) T.n_len PySem.boot_len (qaa (qc8 (pv 0) rfl) qab)) (qeQ T.c_MOST_KEPT (by rfl)) (qas _))))) (qaf qbs) qal)),?_⟩
 refine rdg (σ':=[some x0,some x1]) rfl ?_
 obtain ⟨d,pk,ws,m,n,rfl,D,rfl,hn,q⟩:=h
 obtain ⟨dx,pw,o1,o2⟩:=D.ob
 obtain ⟨kvs,k1,k2⟩:=D.dc
 walk_at "rd"
 refine ⟨cD,dx,_,o1,Z.cl,Z.nk,_,qhC _ _,pk,rfl,_,qlu.k (k:=Sum.inr n) k1,?_⟩
 cases e:m.lookup n with
 | some fs =>
   obtain ⟨p,v1,_⟩:=k2.get e
   exact ⟨false,by rw [v1];rfl,qeO q⟩
 | none =>
   have v1:=k2.no e
   refine ⟨true,by rw [v1];rfl,qiH ⟨cD,dx,_,o1,Z.cl,Z.nk,_,qhC _ _,pk,rfl,_,k1,?_⟩⟩
   have:m.length<20:=by
     rcases hn with h | h
     · exact absurd e h
     · exact h
   rw [if_neg (by rw [k2.1];omega)]
   exact q
abbrev qaX:Stmt:=qfb (top 78) 2
theorem qcy:qao ["self", "kind", "word"] ["self", "kind", "word"] (qac qaX):=⟨rfl,rfl,rfl,by decide +kernel,rfl,by decide +kernel,by decide +kernel⟩
def qiU (cD:Addr):Sp:=sp3 fun x y z H Q=>∃(d pk:Addr) (ws:List Str) (m:List (Str×List Nat)) (k w:Str) (th:Th),x = .ref d∧qcA cD H d pk ws m∧y = .str k∧z = .str w∧Thg ws m k w th∧∀v H',Same H H'→ThV H' th v→Q v H'
theorem qeG {f:Addr} {fd:FuncData} (F:Fun K "thing_of" "Desk.thing_of" qaX f fd) (T:Txt mg) {cD aW:Addr} (Z:Xt P w K mg cD aW) {f_14:Addr} {fd_14:FuncData} (C_14:Cal P w K mg base "read_family" 4 ["words", "text"] (qfB K) f_14 fd_14) {f_37:Addr} {fd_37:FuncData} (C_37:Cal P w K mg base "new_name" 2 ["word"] qfK f_37 fd_37) {f_05:Addr} {fd_05:FuncData} (C_05:qfq P w K mg base cD "family_by" 1 ["self", "word"] (qij cD) f_05 fd_05) {f_28:Addr} {fd_28:FuncData} (C_28:Cal P w K mg base "read_name" 1 ["words", "word"] (qcU K) f_28 fd_28) {f_35:Addr} {fd_35:FuncData} (C_35:Cal P w K mg base "read_set" 2 ["words", "text"] (qdH K) f_35 fd_35):qa1 P w K mg base CX0 5 f fd ["self", "kind", "word"] (qiU cD):=by
 have sc:=qcy
 refine F.ok qcy (fun vs H Q E h=>by obtain ⟨_,_,_,rfl,_⟩:=h;rfl) (fun cdv A outer s H vs Q E hr h=>?_)
 obtain ⟨x0,x1,x2,rfl,h⟩:=h
 refine ⟨_,(qad (qaz (qap (qaC (K:=K) rfl hr.units0) (pv 1) qaj (qas _)) (qaf (qai (qah C_37 hr (by decide) (by rfl) (qaa (pv 2) qab)))) qal)
   (qad (qaz (qap (qaC (K:=K) rfl hr.units0) (pv 1) qaj (qas _)) (qaf (qai (qbq (pv 0) Z.cl C_05 hr (by decide) (qaa (pv 2) qab)))) qal)
   (qad (qaz (qap (qaC (K:=K) rfl hr.units0) (pv 1) qaj (qas _)) (qaf (qai (qah C_28 hr (by decide) (by rfl) (qaa (qc8 (pv 0) rfl) (qaa (pv 2) qab))))) qal)
   (qad (qaz (qap (qaC (K:=K) rfl hr.units0) (pv 1) qaj (qas _)) (qaf (qai (qah C_35 hr (by decide) (by rfl) (qaa (qc8 (pv 0) rfl) (qaa (pv 2) qab))))) qal)
   (qaf (qai (qah C_14 hr (by decide) (by rfl) (qaa (qc8 (pv 0) rfl) (qaa (pv 2) qab))))))))),?_⟩
 refine rdg (σ':=[some x0,some x1,some x2]) rfl ?_
 obtain ⟨d,pk,ws,m,k,w,th,rfl,D,rfl,rfl,hT,q⟩:=h
 obtain ⟨dx,pw,o1,o2⟩:=D.ob
 walk_at "rd"
 have hw:=D.wd
 have h8:=hw.few
 have n1:¬(Str.ofString "family" = Str.ofString "new"):=by decide +kernel
 have n2:¬(Str.ofString "name" = Str.ofString "new"):=by decide +kernel
 have n3:¬(Str.ofString "name" = Str.ofString "family"):=by decide +kernel
 have n4:¬(Str.ofString "set" = Str.ofString "new"):=by decide +kernel
 have n5:¬(Str.ofString "set" = Str.ofString "family"):=by decide +kernel
 have n6:¬(Str.ofString "set" = Str.ofString "name"):=by decide +kernel
 have n7:¬(Str.ofString "text" = Str.ofString "new"):=by decide +kernel
 have n8:¬(Str.ofString "text" = Str.ofString "family"):=by decide +kernel
 have n9:¬(Str.ofString "text" = Str.ofString "name"):=by decide +kernel
 have n10:¬(Str.ofString "text" = Str.ofString "set"):=by decide +kernel
 cases hT with
 | new h =>
   rw [if_pos rfl]
   exact ⟨_,rfl,w,rfl,h,fun H' s'=>q _ _ s' rfl⟩
 | @fam _ fs h =>
   rw [if_neg n1,if_pos rfl]
   exact ⟨dx,_,o1,qbT _ _ (by decide +kernel) (by decide +kernel),_,_,rfl,d,pk,ws,m,w,fs,rfl,D,rfl,h,fun p hp=>q _ _ (Same.refl _) ⟨p,rfl,hp⟩⟩
 | name h =>
   rw [if_neg n2,if_neg n3,if_pos rfl]
   exact ⟨cD,dx,_,o1,Z.cl,Z.nw,_,qhH _ _,_,_,rfl,pw,ws,w,rfl,o2,h8,rfl,h,q _ _ (Same.refl _) rfl⟩
 | @set a h =>
   rw [if_neg n4,if_neg n5,if_neg n6,if_pos rfl]
   exact ⟨cD,dx,_,o1,Z.cl,Z.nw,_,qhH _ _,_,_,rfl,pw,ws,a,rfl,o2,hw,rfl,h,fun H' s'=>q _ _ s' rfl⟩
 | @text fs h =>
   rw [if_neg n7,if_neg n8,if_neg n9,if_neg n10]
   exact ⟨cD,dx,_,o1,Z.cl,Z.nw,_,qhH _ _,_,_,rfl,pw,ws,fs,rfl,o2,hw,rfl,h.lt,h.rise,h.few,fun p' H' hp' s' a'=>q _ _ s' ⟨p',rfl,a'⟩⟩
abbrev qgd:Stmt:=top 81
theorem qlJ:qao ["many", "deed", "things"] ["many", "deed", "things"] (qac qgd):=⟨rfl,rfl,rfl,by decide +kernel,rfl,by decide +kernel,by decide +kernel⟩
inductive MkR (n:Nat):Str→List Th→List Nat→Prop
 | let {fs:List Nat}:MkR n "let" [.fm fs] fs
 | hits {fs:List Nat}:Fml n fs→MkR n "hits" [.fm fs] (Fam.hits n fs)
 | rests {fs:List Nat}:Fml n fs→MkR n "rests" [.fm fs] (Fam.rsts n fs)
 | either {fs gs:List Nat}:Fml n fs→Fml n gs→MkR n "either" [.fm fs,.fm gs] (qeg fs gs)
 | both {fs gs:List Nat}:Fml n fs→Fml n gs→MkR n "both" [.fm fs,.fm gs] (bo fs gs)
 | inn {fs:List Nat} {k:Nat}:Fml n fs→k<n→MkR n "in" [.fm fs,.nu k] (inn fs k)
 | out {fs:List Nat} {k:Nat}:Fml n fs→k<n→MkR n "out" [.fm fs,.nu k] (Fam.outs (Fam.mins (sd fs)) k)
def qlG (K:W.Frag):Sp:=sp3 fun x y z H Q=>∃(n:Nat) (deed:Str) (p:Addr) (vs:List V) (ths:List Th) (gs:List Nat),x = .int (n:Nat)∧n≤8∧y = .str deed∧z = .ref p∧H p=some (.lst vs)∧qhD H ths vs∧MkR n deed ths gs∧∀p' H',Same H H'→H' p'=some (.lst (nV gs))→Q (.ref p') H'
theorem qpJ {f:Addr} {fd:FuncData} (F:Fun K "made" "made" qgd f fd) (T:Txt mg) {f_19:Addr} {fd_19:FuncData} (C_19:Cal P w K mg base "always_out" 4 ["family", "k"] (qpX K) f_19 fd_19) {f_56:Addr} {fd_56:FuncData} (C_56:Cal P w K mg base "hits" 3 ["many", "family"] (qml K) f_56 fd_56) {f_51:Addr} {fd_51:FuncData} (C_51:Cal P w K mg base "rests" 2 ["many", "family"] (qiC K) f_51 fd_51) {f_46:Addr} {fd_46:FuncData} (C_46:Cal P w K mg base "either" 4 ["one", "other"] (qgO K) f_46 fd_46) {f_57:Addr} {fd_57:FuncData} (C_57:Cal P w K mg base "both" 4 ["one", "other"] (qkw K) f_57 fd_57) {f_29:Addr} {fd_29:FuncData} (C_29:Cal P w K mg base "always_in" 4 ["family", "k"] (qsE K) f_29 fd_29):qa1 P w K mg base CX0 5 f fd ["many", "deed", "things"] (qlG K):=by
 have sc:=qlJ
 refine F.ok qlJ (fun vs H Q E h=>by obtain ⟨_,_,_,rfl,_⟩:=h;rfl) (fun cdv A outer s H vs Q E hr h=>?_)
 obtain ⟨x0,x1,x2,rfl,h⟩:=h
 refine ⟨_,(qad (qaz (qap (qaC (K:=K) rfl hr.units0) (pv 1) qaj (qas _)) (qaf (qai (qba (qcB (K:=K) rfl) (pv 2) qag (fun _ _=>rfl)))) qal)
   (qad (qaz (qap (qaC (K:=K) rfl hr.units0) (pv 1) qaj (qas _)) (qaf (qai (qah C_56 hr (by decide) (by rfl) (qaa (pv 0) (qaa (qba (qcB (K:=K) rfl) (pv 2) qag (fun _ _=>rfl)) qab))))) qal)
   (qad (qaz (qap (qaC (K:=K) rfl hr.units0) (pv 1) qaj (qas _)) (qaf (qai (qah C_51 hr (by decide) (by rfl) (qaa (pv 0) (qaa (qba (qcB (K:=K) rfl) (pv 2) qag (fun _ _=>rfl)) qab))))) qal)
   (qad (qaz (qap (qaC (K:=K) rfl hr.units0) (pv 1) qaj (qas _)) (qaf (qai (qah C_46 hr (by decide) (by rfl) (qaa (qba (qcB (K:=K) rfl) (pv 2) qag (fun _ _=>rfl)) (qaa (qba (qcB (K:=K) rfl) (pv 2) qag (fun _ _=>rfl)) qab))))) qal)
   (qad (qaz (qap (qaC (K:=K) rfl hr.units0) (pv 1) qaj (qas _)) (qaf (qai (qah C_57 hr (by decide) (by rfl) (qaa (qba (qcB (K:=K) rfl) (pv 2) qag (fun _ _=>rfl)) (qaa (qba (qcB (K:=K) rfl) (pv 2) qag (fun _ _=>rfl)) qab))))) qal)
   (qad (qaz (qap (qaC (K:=K) rfl hr.units0) (pv 1) qaj (qas _)) (qaf (qai (qah C_29 hr (by decide) (by rfl) (qaa (qba (qcB (K:=K) rfl) (pv 2) qag (fun _ _=>rfl)) (qaa (qba (qcB (K:=K) rfl) (pv 2) qag (fun _ _=>rfl)) qab))))) qal)
   (qaf (qai (qah C_19 hr (by decide) (by rfl) (qaa (qba (qcB (K:=K) rfl) (pv 2) qag (fun _ _=>rfl)) (qaa (qba (qcB (K:=K) rfl) (pv 2) qag (fun _ _=>rfl)) qab))))))))))),?_⟩
 refine rdg (σ':=[some x0,some x1,some x2]) rfl ?_
 obtain ⟨n,deed,p,vs,ths,gs,rfl,hn,rfl,rfl,f1,hv,hM,q⟩:=h
 walk_at "rd"
 have n_hits_let:¬(Str.ofString "hits" = Str.ofString "let"):=by decide +kernel
 have n_rests_let:¬(Str.ofString "rests" = Str.ofString "let"):=by decide +kernel
 have n_either_let:¬(Str.ofString "either" = Str.ofString "let"):=by decide +kernel
 have n_both_let:¬(Str.ofString "both" = Str.ofString "let"):=by decide +kernel
 have n_in_let:¬(Str.ofString "in" = Str.ofString "let"):=by decide +kernel
 have n_out_let:¬(Str.ofString "out" = Str.ofString "let"):=by decide +kernel
 have n_rests_hits:¬(Str.ofString "rests" = Str.ofString "hits"):=by decide +kernel
 have n_either_hits:¬(Str.ofString "either" = Str.ofString "hits"):=by decide +kernel
 have n_both_hits:¬(Str.ofString "both" = Str.ofString "hits"):=by decide +kernel
 have n_in_hits:¬(Str.ofString "in" = Str.ofString "hits"):=by decide +kernel
 have n_out_hits:¬(Str.ofString "out" = Str.ofString "hits"):=by decide +kernel
 have n_either_rests:¬(Str.ofString "either" = Str.ofString "rests"):=by decide +kernel
 have n_both_rests:¬(Str.ofString "both" = Str.ofString "rests"):=by decide +kernel
 have n_in_rests:¬(Str.ofString "in" = Str.ofString "rests"):=by decide +kernel
 have n_out_rests:¬(Str.ofString "out" = Str.ofString "rests"):=by decide +kernel
 have n_both_either:¬(Str.ofString "both" = Str.ofString "either"):=by decide +kernel
 have n_in_either:¬(Str.ofString "in" = Str.ofString "either"):=by decide +kernel
 have n_out_either:¬(Str.ofString "out" = Str.ofString "either"):=by decide +kernel
 have n_in_both:¬(Str.ofString "in" = Str.ofString "both"):=by decide +kernel
 have n_out_both:¬(Str.ofString "out" = Str.ofString "both"):=by decide +kernel
 have n_out_in:¬(Str.ofString "out" = Str.ofString "in"):=by decide +kernel
 have le:∀{b:Nat},b<2^n→b<2^8:=fun h=>Nat.lt_of_lt_of_le h (Nat.pow_le_pow_right (by decide) hn)
 cases hM with
 | «let» =>
   obtain ⟨v0,us,rfl,⟨p0,rfl,b0⟩,hu⟩:=hv.cons
   obtain rfl:=hu.empty
   rw [if_pos rfl]
   exact qbl (SqL.of f1) rfl (q _ _ (Same.refl _) b0)
 | hits h =>
   obtain ⟨v0,us,rfl,⟨p0,rfl,b0⟩,hu⟩:=hv.cons
   obtain rfl:=hu.empty
   rw [if_neg n_hits_let,if_pos rfl]
   refine qbl (SqL.of f1) rfl ⟨_,_,rfl,n,p0,_,rfl,hn,rfl,b0,fun H' p' hp' s' a'=>q _ _ s' a'⟩
 | rests h =>
   obtain ⟨v0,us,rfl,⟨p0,rfl,b0⟩,hu⟩:=hv.cons
   obtain rfl:=hu.empty
   rw [if_neg n_rests_let,if_neg n_rests_hits,if_pos rfl]
   refine qbl (SqL.of f1) rfl ⟨_,_,rfl,n,p0,_,rfl,hn,rfl,SqL.of b0,h.rise,h.lt,by have:=h.few;omega,fun H' p' hp' s' a'=>q _ _ s' a'⟩
 | either h1 h2 =>
   obtain ⟨v0,us,rfl,⟨p0,rfl,b0⟩,hu⟩:=hv.cons
   obtain ⟨v1,us',rfl,⟨p1,rfl,b1⟩,hu'⟩:=hu.cons
   obtain rfl:=hu'.empty
   rw [if_neg n_either_let,if_neg n_either_hits,if_neg n_either_rests,if_pos rfl]
   refine qbl (SqL.of f1) rfl (qbl (SqL.of f1) rfl ⟨_,_,rfl,p0,p1,_,_,rfl,SqL.of b0,rfl,SqL.of b1,by have:=h1.few;have:=h2.few;omega,fun H' p' hp' s' a'=>q _ _ s' a'⟩)
 | both h1 h2 =>
   obtain ⟨v0,us,rfl,⟨p0,rfl,b0⟩,hu⟩:=hv.cons
   obtain ⟨v1,us',rfl,⟨p1,rfl,b1⟩,hu'⟩:=hu.cons
   obtain rfl:=hu'.empty
   rw [if_neg n_both_let,if_neg n_both_hits,if_neg n_both_rests,if_neg n_both_either,if_pos rfl]
   refine qbl (SqL.of f1) rfl (qbl (SqL.of f1) rfl ⟨_,_,rfl,p0,p1,_,_,rfl,b0,rfl,b1,h1.few,h2.few,fun b hb=>le (h1.lt b hb),fun b hb=>le (h2.lt b hb),fun H' p' hp' s' a'=>q _ _ s' a'⟩)
 | inn h hk =>
   obtain ⟨v0,us,rfl,⟨p0,rfl,b0⟩,hu⟩:=hv.cons
   obtain ⟨v1,us',rfl,e1,hu'⟩:=hu.cons
   obtain rfl:=hu'.empty
   cases e1
   rw [if_neg n_in_let,if_neg n_in_hits,if_neg n_in_rests,if_neg n_in_either,if_neg n_in_both,if_pos rfl]
   refine qbl (SqL.of f1) rfl (qbl (SqL.of f1) rfl ⟨_,_,rfl,p0,_,_,rfl,SqL.of b0,rfl,by omega,by have:=h.few;omega,fun H' p' hp' s' a'=>q _ _ s' a'⟩)
 | out h hk =>
   obtain ⟨v0,us,rfl,⟨p0,rfl,b0⟩,hu⟩:=hv.cons
   obtain ⟨v1,us',rfl,e1,hu'⟩:=hu.cons
   obtain rfl:=hu'.empty
   cases e1
   rw [if_neg n_out_let,if_neg n_out_hits,if_neg n_out_rests,if_neg n_out_either,if_neg n_out_both,if_neg n_out_in]
   refine qbl (SqL.of f1) rfl (qbl (SqL.of f1) rfl ⟨_,_,rfl,p0,_,_,rfl,SqL.of b0,rfl,by omega,by have:=h.few;omega,fun H' p' hp' s' a'=>q _ _ s' a'⟩)
abbrev qb6:Stmt:=top 82
theorem qe8:qao ["words", "deed", "things", "many", "family"] ["words", "deed", "things"] (qac qb6):=⟨rfl,rfl,rfl,by decide +kernel,rfl,by decide +kernel,by decide +kernel⟩
inductive Ans (ws:List Str):Str→List Th→Str→Prop
 | show {fs:List Nat}:Fml ws.length fs→Ans ws "show" [.fm fs] (Tx.fT ws fs)
 | turns {fs:List Nat}:Fml ws.length fs→Ans ws "turns" [.fm fs] (qsW (Fam.trns ws.length (Fam.sayP fs)))
 | each {fs gs:List Nat}:Fml ws.length fs→Fml ws.length gs→qpo ws.length fs gs=[.str ("each" : Str)]→Ans ws "held" [.fm fs,.fm gs] (wsT ws "each" [])
 | least {fs:List Nat} {a:Nat}:Fml ws.length fs→a<2^ws.length→qfm fs a=none→qns fs a=none→Ans ws "look" [.fm fs,.nu a] (_root_.PySem.Txt.join " " (("least" : Str)::(Fam.nms 8 a).map (lkT ws fs a)))
theorem qmY {m:Nat} (hm:m≤8) (f:Nat→Bool):∀n∈Fam.trns m f,n≤256:=fun n hn=>by
 obtain ⟨k,hk,rfl⟩:=List.mem_map.mp hn
 unfold Fam.trn
 exact Nat.le_trans (List.length_filter_le _ _) (by rw [List.length_range];exact Nat.pow_le_pow_right (n:=2) (by decide) hm)
def qd4 (K:W.Frag):Sp:=sp3 fun x y z H Q=>∃(p:Addr) (ws:List Str) (deed:Str) (pt:Addr) (vs:List V) (ths:List Th) (t:Str),x = .ref p∧H p=some (.lst (sV ws))∧Tx.Wds ws∧y = .str deed∧z = .ref pt∧H pt=some (.lst vs)∧qhD H ths vs∧Ans ws deed ths t∧∀H',Same H H'→Q (.str t) H'
theorem qiD {f:Addr} {fd:FuncData} (F:Fun K "answered" "answered" qb6 f fd) (T:Txt mg) {f_11:Addr} {fd_11:FuncData} (C_11:Cal P w K mg base "show_weights" 1 ["words", "told"] qih f_11 fd_11) {f_13:Addr} {fd_13:FuncData} (C_13:Cal P w K mg base "show_family" 3 ["words", "family"] (qfe K) f_13 fd_13) {f_15:Addr} {fd_15:FuncData} (C_15:Cal P w K mg base "show_looked" 4 ["words", "told"] (qo9 K) f_15 fd_15) {f_01:Addr} {fd_01:FuncData} (C_01:Cal P w K mg base "show_word_and_sets" 3 ["words", "told"] (qgy K) f_01 fd_01) {f_10:Addr} {fd_10:FuncData} (C_10:Cal P w K mg base "show_numbers" 1 ["numbers"] (qfC K) f_10 fd_10) {f_20:Addr} {fd_20:FuncData} (C_20:Cal P w K mg base "show_ranks" 1 ["words", "told"] qih f_20 fd_20) {f_21:Addr} {fd_21:FuncData} (C_21:Cal P w K mg base "by_weights" 1 ["many", "family"] qih f_21 fd_21) {f_55:Addr} {fd_55:FuncData} (C_55:Cal P w K mg base "says" 2 ["family", "one"] (qfQ K) f_55 fd_55) {f_47:Addr} {fd_47:FuncData} (C_47:Cal P w K mg base "looked" 3 ["family", "one"] (qgo K) f_47 fd_47) {f_58:Addr} {fd_58:FuncData} (C_58:Cal P w K mg base "held" 4 ["many", "one", "other"] (qk9 K) f_58 fd_58) {f_03:Addr} {fd_03:FuncData} (C_03:Cal P w K mg base "compared_unlike" 1 ["many", "family", "x", "y"] qih f_03 fd_03) {f_52:Addr} {fd_52:FuncData} (C_52:Cal P w K mg base "turns" 4 ["many", "family"] (qiA K) f_52 fd_52) {f_53:Addr} {fd_53:FuncData} (C_53:Cal P w K mg base "ranks" 1 ["many", "family"] qih f_53 fd_53):qa1 P w K mg base CX0 5 f fd ["words", "deed", "things"] (qd4 K):=by
 have sc:=qe8
 refine F.ok qe8 (fun vs H Q E h=>by obtain ⟨_,_,_,rfl,_⟩:=h;rfl) (fun cdv A outer s H vs Q E hr h=>?_)
 obtain ⟨x0,x1,x2,rfl,h⟩:=h
 refine ⟨_,(qad (qay (i:=3) sc.nd rfl (Or.inl rfl) (qaA (qaT (K:=K) rfl) (by rfl) T.n_len PySem.boot_len (qaa (pv 0) qab)))
   (qad (qay (i:=4) sc.nd rfl (Or.inl rfl) (qba (qcB (K:=K) rfl) (pv 2) qag (fun _ _=>rfl)))
   (qad (qaz (qap (qaC (K:=K) rfl hr.units0) (pv 1) qaj (qas _)) (qaf (qai (qah C_13 hr (by decide) (by rfl) (qaa (pv 0) (qaa (pv 4) qab))))) qal)
   (qad (qaz (qap (qaC (K:=K) rfl hr.units0) (pv 1) qaj (qas _)) (qaf (qai (qjz (qa3 (qah C_55 hr (by decide) (by rfl) (qaa (pv 4) (qaa (qba (qcB (K:=K) rfl) (pv 2) qag (fun _ _=>rfl)) qab)))) qaj qaj))) qal)
   (qad (qaz (qap (qaC (K:=K) rfl hr.units0) (pv 1) qaj (qas _)) (qaf (qai (qah C_15 hr (by decide) (by rfl) (qaa (pv 0) (qaa (qah C_47 hr (by decide) (by rfl) (qaa (pv 4) (qaa (qba (qcB (K:=K) rfl) (pv 2) qag (fun _ _=>rfl)) qab))) qab))))) qal)
   (qad (qaz (qap (qaC (K:=K) rfl hr.units0) (pv 1) qaj (qas _)) (qaf (qai (qah C_01 hr (by decide) (by rfl) (qaa (pv 0) (qaa (qah C_58 hr (by decide) (by rfl) (qaa (pv 3) (qaa (pv 4) (qaa (qba (qcB (K:=K) rfl) (pv 2) qag (fun _ _=>rfl)) qab)))) qab))))) qal)
   (qad (qaz (qap (qaC (K:=K) rfl hr.units0) (pv 1) qaj (qas _)) (qaf (qai (qah C_01 hr (by decide) (by rfl) (qaa (pv 0) (qaa (qah C_03 hr (by decide) (by rfl) (qaa (pv 3) (qaa (pv 4) (qaa (qba (qcB (K:=K) rfl) (pv 2) qag (fun _ _=>rfl)) (qaa (qba (qcB (K:=K) rfl) (pv 2) qag (fun _ _=>rfl)) qab))))) qab))))) qal)
   (qad (qaz (qap (qaC (K:=K) rfl hr.units0) (pv 1) qaj (qas _)) (qaf (qai (qah C_10 hr (by decide) (by rfl) (qaa (qah C_52 hr (by decide) (by rfl) (qaa (pv 3) (qaa (pv 4) qab))) qab)))) qal)
   (qad (qaz (qap (qaC (K:=K) rfl hr.units0) (pv 1) qaj (qas _)) (qaf (qai (qah C_20 hr (by decide) (by rfl) (qaa (pv 0) (qaa (qah C_53 hr (by decide) (by rfl) (qaa (pv 3) (qaa (pv 4) qab))) qab))))) qal)
   (qaf (qai (qah C_11 hr (by decide) (by rfl) (qaa (pv 0) (qaa (qah C_21 hr (by decide) (by rfl) (qaa (pv 3) (qaa (pv 4) qab))) qab)))))))))))))),?_⟩
 refine rdg (σ':=[some x0,some x1,some x2,none,none]) rfl ?_
 obtain ⟨p,ws,deed,pt,vs,ths,t,rfl,f1,hw,rfl,rfl,f2,hv,hA,q⟩:=h
 have h8:=hw.few
 walk_at "rd"
 refine ⟨_,.inl (SqL.of f1),?_⟩
 rw [qbo]
 cases hA with
 | «show» h =>
   obtain ⟨v0,us,rfl,⟨p0,rfl,b0⟩,hu⟩:=hv.cons
   obtain rfl:=hu.empty
   refine qbl (SqL.of f2) rfl ?_
   rw [if_pos rfl]
   exact ⟨_,_,rfl,p,p0,ws,_,rfl,f1,hw,rfl,b0,h.lt,h.few,q⟩
 | @turns fs h =>
   obtain ⟨v0,us,rfl,⟨p0,rfl,b0⟩,hu⟩:=hv.cons
   obtain rfl:=hu.empty
   refine qbl (SqL.of f2) rfl ?_
   have n_show:¬(Str.ofString "turns" = Str.ofString "show"):=by decide +kernel
   have n_says:¬(Str.ofString "turns" = Str.ofString "says"):=by decide +kernel
   have n_look:¬(Str.ofString "turns" = Str.ofString "look"):=by decide +kernel
   have n_held:¬(Str.ofString "turns" = Str.ofString "held"):=by decide +kernel
   have n_compare:¬(Str.ofString "turns" = Str.ofString "compare"):=by decide +kernel
   rw [if_neg n_show,if_neg n_says,if_neg n_look,if_neg n_held,if_neg n_compare,if_pos rfl]
   refine ⟨_,_,rfl,_,p0,_,rfl,h8,rfl,b0,fun H1 p1 hp1 s1 a1=>⟨_,rfl,p1,_,rfl,a1,?_,qmY h8 _,fun H2 s2=>q _ (s1.trans s2)⟩⟩
   unfold Fam.trns
   rw [List.length_map,List.length_range]
   omega
 | @each fs gs h1 h2 he =>
   obtain ⟨v0,us,rfl,⟨p0,rfl,b0⟩,hu⟩:=hv.cons
   obtain ⟨v1,us',rfl,⟨p1,rfl,b1⟩,hu'⟩:=hu.cons
   obtain rfl:=hu'.empty
   refine qbl (SqL.of f2) rfl ?_
   have n_show:¬(Str.ofString "held" = Str.ofString "show"):=by decide +kernel
   have n_says:¬(Str.ofString "held" = Str.ofString "says"):=by decide +kernel
   have n_look:¬(Str.ofString "held" = Str.ofString "look"):=by decide +kernel
   rw [if_neg n_show,if_neg n_says,if_neg n_look,if_pos rfl]
   refine qbl (SqL.of f2) rfl ⟨_,_,_,rfl,_,p0,p1,_,_,rfl,h8,rfl,SqL.of b0,rfl,SqL.of b1,fun t1 H1 ht1 s1 a1=>?_⟩
   rw [he] at a1
   exact ⟨_,_,rfl,p,t1,ws, "each",[],rfl,s1 _ _ f1,hw,rfl,a1,by decide +kernel,by decide,fun a ha=>(by cases ha),fun H2 s2=>q _ (s1.trans s2)⟩
 | @least fs a h ha e1 e2 =>
   obtain ⟨v0,us,rfl,⟨p0,rfl,b0⟩,hu⟩:=hv.cons
   obtain ⟨v1,us',rfl,e1,hu'⟩:=hu.cons
   obtain rfl:=hu'.empty
   cases e1
   refine qbl (SqL.of f2) rfl ?_
   have n_show:¬(Str.ofString "look" = Str.ofString "show"):=by decide +kernel
   have n_says:¬(Str.ofString "look" = Str.ofString "says"):=by decide +kernel
   rw [if_neg n_show,if_neg n_says,if_pos rfl]
   have a8:a<256:=Nat.lt_of_lt_of_le ha (Nat.pow_le_pow_right (n:=2) (by decide) h8)
   refine qbl (SqL.of f2) rfl ⟨_,_,rfl,p0,fs,a,rfl,b0,rfl,a8,fun b hb=>(by rw [e1] at hb;cases hb),fun _ k hk=>(by rw [e2] at hk;cases hk),fun _ _ t1 p1 ps H1 _ _ _ s1 c1 c2 c3=>?_⟩
   exact ⟨_,_,rfl,p,t1,ws,rfl,s1 _ _ f1,hw,rfl,p1,ps,fs,a,c1,c2,c3,ha,h.lt,fun H2 s2=>q _ (s1.trans s2)⟩
abbrev qb3:Stmt:=qfb (top 78) 1
theorem qfr:qao ["self", "row", "parts", "deed", "things"] ["self", "row"] (qac qb3):=⟨rfl,rfl,rfl,by decide +kernel,rfl,by decide +kernel,by decide +kernel⟩
theorem qnK {c:TT} {t u:TS} {D:qf0} {σ:L2.St} {H:Hp}:ql2 (qrr c t qky) u D σ H↔c σ H fun b H1=>if b=true then t { D with nx:=u D } σ H1 else u D σ H1:=Iff.rfl
theorem qgb {α:Type} {k:Str} {v:α}:∀{l:List (Str×α)},l.lookup k=some v→(k,v)∈l
 | [],h=>by cases h
 | (y,u)::l,h=>by
   rw [List.lookup_cons] at h
   by_cases e:k=y
   · subst e
     simp at h
     subst h
     exact List.mem_cons_self
   · rw [beq_eq_false_iff_ne.mpr e] at h
     exact List.mem_cons_of_mem _ (qgb h)
theorem qko {d:Str} {ks:List Str} (h:wanted d=some ks):ks.length≤20:=by
 have:∀p∈qiq,p.2.length≤20:=by decide +kernel
 exact this (d,ks) (qgb h)
def ql7 (cD:Addr):Sp:=sp2 fun x y H Q=>∃(d pk:Addr) (ws:List Str) (m:List (Str×List Nat)) (z deed:Str) (r ks:List Str) (ths:List Th),x = .ref d∧qcA cD H d pk ws m∧y = .str z∧Prt z deed r ks∧qhr ws m ks r ths ∧
 ((∃(n:Str) (qeE:List Th) (gs:List Nat),ks[0]?=some ("new" : Str)∧ths = .nm n::qeE∧MkR ws.length deed qeE gs∧Fml ws.length gs∧(m.lookup n≠none∨m.length<20)∧∀H',SmB pk H H'→qcA cD H' d pk ws (qaI m n gs)→Q (.str "ok") H') ∨
  ∃(k0:Str) (t:Str),ks[0]?=some k0∧k0 ≠ "new" ∧ Ans ws deed ths t∧∀H',Same H H'→Q (.str t) H')
theorem qiS {f:Addr} {fd:FuncData} (F:Fun K "say" "Desk.say" qb3 f fd) (T:Txt mg) {cD aW:Addr} (Z:Xt P w K mg cD aW) {f_38:Addr} {fd_38:FuncData} (C_38:Cal P w K mg base "parts_of" 1 ["row"] (qe1 K) f_38 fd_38) {f_39:Addr} {fd_39:FuncData} (C_39:Cal P w K mg base "answered" 5 ["words", "deed", "things"] (qd4 K) f_39 fd_39) {f_08:Addr} {fd_08:FuncData} (C_08:qfq P w K mg base cD "thing_of" 5 ["self", "kind", "word"] (qiU cD) f_08 fd_08) {f_02:Addr} {fd_02:FuncData} (C_02:qfq P w K mg base cD "look_for_room" 1 ["self", "name"] (qlt cD) f_02 fd_02) {f_59:Addr} {fd_59:FuncData} (C_59:Cal P w K mg base "made" 5 ["many", "deed", "things"] (qlG K) f_59 fd_59):qa1 P w K mg base CX0 6 f fd ["self", "row"] (ql7 cD):=by
 have sc:=qfr
 refine F.ok qfr (fun vs H Q E h=>by obtain ⟨_,_,rfl,_⟩:=h;rfl) (fun cdv A outer s H vs Q E hr h=>?_)
 obtain ⟨x0,x1,rfl,h⟩:=h
 refine ⟨_,(qad (qay (i:=2) sc.nd rfl (Or.inl rfl) (qah C_38 hr (by decide) (by rfl) (qaa (pv 1) qab)))
   (qad (qay (i:=3) sc.nd rfl (Or.inl rfl) (qba (qcB (K:=K) rfl) (pv 2) qag (fun _ _=>rfl)))
   (qad (qfI (i:=4) sc.nd rfl rfl (by rfl) (N:=["kind", "word", "self"]) (nt:=2) (caps:=[0]) qaJ rfl (qoH (K:=K) rfl (by rfl) T.n_zip (qaa (qiJ (P:=P) (w:=w) (K:=K) rfl rfl rfl (qea (v := .ref aW) (by rfl) Z.gW rfl) (pv 3) (fun _ _=>rfl)) (qaa (qc0 (qsg (K:=K) rfl) (pv 2) (qd3 qag) qd2) qab))) (fun _ _ _ _ _=>(qol (n:=2) rfl (qeH (qau (i:=0) (show List.Nodup (α:=Str) ["kind", "word", "self"] from by decide +kernel) rfl (Or.inl rfl)) (qeH (qau (i:=1) (show List.Nodup (α:=Str) ["kind", "word", "self"] from by decide +kernel) rfl (Or.inl rfl)) qlW)))) qoi (fun _ _ _ _ _=>qaZ) (fun _ _ _ _ _=>(qbq (pv 2) Z.cl C_08 hr (by decide) (qaa (pv 0) (qaa (pv 1) qab)))))
   (qad (qaz (qap (qaC (K:=K) rfl hr.units0) (qba (qcB (K:=K) rfl) (qiJ (P:=P) (w:=w) (K:=K) rfl rfl rfl (qea (v := .ref aW) (by rfl) Z.gW rfl) (pv 3) (fun _ _=>rfl)) qag (fun _ _=>rfl)) qaj (qas _)) (qad (qdp (qbq (pv 0) Z.cl C_02 hr (by decide) (qaa (qba (qcB (K:=K) rfl) (pv 4) qag (fun _ _=>rfl)) qab)))
   (qad (qo7 (qnp hr) (qc8 (pv 0) rfl) (qba (qcB (K:=K) rfl) (pv 4) qag (fun _ _=>rfl)) (qah C_59 hr (by decide) (by rfl) (qaa (qaA (qaT (K:=K) rfl) (by rfl) T.n_len PySem.boot_len (qaa (qc8 (pv 0) rfl) qab)) (qaa (pv 3) (qaa (qc0 (qsg (K:=K) rfl) (pv 4) (qd3 qag) qd2) qab)))) rfl)
   (qaf (qai qaj)))) qal)
   (qaf (qai (qah C_39 hr (by decide) (by rfl) (qaa (qc8 (pv 0) rfl) (qaa (pv 3) (qaa (pv 4) qab)))))))))),?_⟩
 refine rdg (σ':=[some x0,some x1,none,none,none]) rfl ?_
 obtain ⟨d,pk,ws,m,z,deed,r,ks,ths,rfl,D,rfl,hP,hT,h⟩:=h
 obtain ⟨dx,pw,o1,o2⟩:=D.ob
 obtain ⟨kvs,kd1,kd2⟩:=Z.wn.kv
 obtain ⟨tw,vt,ht⟩:=kd2 deed ks hP.kd
 have lT:=hT.1
 have lN:=hP.ln
 have l20:ks.length≤20:=qko hP.kd
 walk_at "rd"
 refine ⟨_,rfl,z,deed,r,ks,rfl,hP,fun p1 H1 hp1 s1 a1=>?_⟩
 refine qbl (SqL.of a1) (qhG (i:=0) rfl) ⟨kvs,Sum.inr deed,rfl,kd1,_,vt,p1,_,rfl,SqL.of a1,fun p2 hp2=>?_⟩
 rw [show (1:Int)=((1:Nat):Int) from rfl,qgw,show (sV (deed::r)).drop 1=sV r from rfl]
 generalize g2:upd H1 p2 _=G2
 have a2:=qaw g2
 have s2:=s1.trans (qaq g2 hp2)
 refine ⟨tw,p2,⟨rfl,rfl⟩,_,ht G2,_,SqL.of a2,qqK (xs:=sV ks) (ys:=sV r) (by rw [qbo,qbo,lN]) (fun i zs H3=>Same G2 H3∧qhD H3 (ths.take i) zs) ⟨Same.refl _,qhD.nil⟩ (Nat.le_trans (by rw [qbo];omega) (show 100000≤sizeLine by decide)) (fun i zs H3 hi h=>⟨ht _,SqL.of (h.1 _ _ a2),by rw [←h.2.1,List.length_take];omega⟩) (fun i x y zs H3 t hx hy h hn3 R R' r1 r2=>?_) fun zs H3 h p3 hp3=>?_⟩
 · obtain ⟨s3,hv⟩:=h
   rw [List.getElem?_map] at hx hy
   cases ek:ks[i]? with
   | none=>rw [ek] at hx;cases hx
   | some k =>
   cases ew:r[i]? with
   | none=>rw [ew] at hy;cases hy
   | some w =>
   rw [ek] at hx
   rw [ew] at hy
   cases hx
   cases hy
   have hi:i<ths.length:=by
     have:=(List.getElem?_eq_some_iff.mp ek).1
     omega
   have et:ths[i]?=some ths[i]:=List.getElem?_eq_getElem hi
   have hth:=hT.2 i k w _ ek ew et
   have s4:=Same.new (o := .tup [.str k,.str w]) hn3
   have D4:=((D.same s2).same s3).same s4
   obtain ⟨dx4,pw4,o4,_⟩:=D4.ob
   (try walk_at "rd")
   refine ⟨_,SqT.of qak,rfl,_,_,rfl,_,_,rfl,rfl,dx4,_,o4,qbT _ _ (by decide +kernel) (by decide +kernel),_,_,_,rfl,d,pk,ws,m,k,w,_,rfl,D4,rfl,rfl,hth,fun v H5 s5 hv5=>r1 v H5 ⟨(s3.trans s4).trans s5,?_⟩⟩
   rw [List.take_add_one,et]
   exact ((hv.same s4).same s5).snoc hv5
 obtain ⟨s3,hv⟩:=h
 rw [qbo,←lT,List.take_length] at hv
 generalize g3:upd H3 p3 _=G3
 have a3:=qaw g3
 have t3:=qaq g3 hp3
 have s3:=(s2.trans s3).trans t3
 have hv:=hv.same t3
 have D3:=D.same s3
 clear g3 a1 a2 s1 g2 s2
 refine qnK.mpr ?_
 walk_at "rd"
 rcases h with ⟨n,qeE,gs,k0,rfl,hM,hF,hm,q⟩ | ⟨k0,t,e0,k0,hA,q⟩
 · refine ⟨kvs,Sum.inr deed,rfl,kd1,_,vt,qkk (ht _) (qhG (i:=0) k0) ⟨_,.inl ⟨rfl,rfl⟩,⟨true,congrArg V.bl (decide_eq_true rfl),qiH ?_⟩⟩⟩
   obtain ⟨v0,us,rfl,rfl,hu⟩:=hv.cons
   obtain ⟨dx3,pw3,o3,w3⟩:=D3.ob
   refine ⟨dx3,_,o3,qbT _ _ (by decide +kernel) (by decide +kernel),qbl (SqL.of a3) (qdg (j:=0) rfl) ⟨_,_,rfl,d,pk,ws,m,n,rfl,D3,rfl,hm,cD,dx3,_,o3,Z.cl,Z.nw,_,qhH _ _,pw3,rfl,_,.inl (SqL.of w3),p3,_,rfl,SqL.of a3,fun p4 hp4=>?_⟩⟩
   rw [qgw,show (V.str n::us).drop 1=us from rfl,qbo]
   generalize g4:upd G3 p4 _=G4
   have a4:=qaw g4
   have t4:=qaq g4 hp4
   refine ⟨_,_,_,rfl,ws.length,deed,p4,us,qeE,gs,rfl,D.wd.few,rfl,rfl,a4,hu.same t4,hM,fun p5 H5 s5 a5=>?_⟩
   have D5:=(D3.same t4).same s5
   obtain ⟨dx5,pw5,o5,w5⟩:=D5.ob
   obtain ⟨kv5,c5,k5⟩:=D5.dc
   refine ⟨cD,dx5,_,o5,Z.cl,Z.nk,_,qhC _ _,qbl (SqL.of (s5 _ _ (t4 _ _ a3))) (qdg (j:=0) rfl) ⟨pk,rfl,_,qqd.k (k:=Sum.inr n) c5 (qej (by have:=D5.ms;have:=k5.1;omega)),q _ (fun b o e hb=>by rw [qax hb];exact s5 _ _ (t4 _ _ (s3 _ _ e))) ?_⟩⟩
   refine ⟨⟨dx5,pw5,by rw [qax fun e=>by rw [e,c5] at o5;cases o5];exact o5,by rw [qax fun e=>by rw [e,c5] at w5;cases w5];exact w5⟩,⟨_,qak,(k5.put a5).same fun p fs h=>by rw [qax fun e=>by rw [e,c5] at h;cases h];exact h⟩,D.wd,fun x fs h=>?_,?_⟩
   · rw [qae] at h
     by_cases e:x=n
     · rw [if_pos e] at h
       cases h
       exact hF
     · rw [if_neg e] at h
       exact D.fm x fs h
   · rw [qcr]
     have:=D.ms
     cases e:m.lookup n with
     | some gs=>simpa using this
     | none =>
       rcases hm with h | h
       · exact absurd e h
       · simp
         omega
 · refine ⟨kvs,Sum.inr deed,rfl,kd1,_,vt,qkk (ht _) (qhG (i:=0) e0) ⟨_,.inl ⟨rfl,rfl⟩,⟨false,congrArg V.bl (decide_eq_false fun e=>k0 (V.str.inj e)),qeO ?_⟩⟩⟩
   obtain ⟨dx3,pw3,o3,w3⟩:=D3.ob
   exact ⟨cD,dx3,_,o3,Z.cl,Z.nw,_,qhH _ _,_,_,_,rfl,pw3,ws,deed,p3,zs,ths,t,rfl,w3,D.wd,rfl,rfl,a3,hv,hA,fun H4 s4=>q _ (s3.trans s4)⟩
abbrev qb2:Stmt:=top 92
theorem qfP:qao ["_law_desk", "_law_rows", "_law_row"] ["_law_desk", "_law_rows"] (qac qb2):=⟨rfl,rfl,rfl,by decide +kernel,rfl,by decide +kernel,by decide +kernel⟩
theorem SmB.refl {pk:Addr} {H:Hp}:SmB pk H H:=fun _ _ e _=>e
theorem SmB.trans {pk:Addr} {H H1 H2:Hp} (h:SmB pk H H1) (h2:SmB pk H1 H2):SmB pk H H2:=fun b o e n=>h2 b o (h b o e n) n
theorem qiP {f:Nat→Str→List Th→List Nat→Prop} {ws:List Str} {z:Str} {zs:List Str} {m m':List (Str×List Nat)} (h:qdT f ws (z::zs) m m'):∃m1,qgF f ws m z m1∧qdT f ws zs m1 m':=h
def qh5 (cD:Addr):Sp:=sp2 fun x y H Q=>∃(d pk p:Addr) (ws:List Str) (m m':List (Str×List Nat)) (rows:List Str),x = .ref d∧qcA cD H d pk ws m∧y = .ref p∧H p=some (.lst (sV rows))∧rows.length≤20∧qdT MkR ws rows m m'∧∀H',SmB pk H H'→qcA cD H' d pk ws m'→Q (.bl true) H'
theorem qiO {f:Addr} {fd:FuncData} (F:Fun K "_law_all" "_law_all" qb2 f fd) (T:Txt mg) {cD aW:Addr} (Z:Xt P w K mg cD aW) {f_40:Addr} {fd_40:FuncData} (C_40:qfq P w K mg base cD "say" 6 ["self", "row"] (ql7 cD) f_40 fd_40):qa1 P w K mg base CX0 7 f fd ["_law_desk", "_law_rows"] (qh5 cD):=by
 have sc:=qfP
 refine F.ok qfP (fun vs H Q E h=>by obtain ⟨_,_,rfl,_⟩:=h;rfl) (fun cdv A outer s H vs Q E hr h=>?_)
 obtain ⟨x0,x1,rfl,h⟩:=h
 refine ⟨_,(qad (qbG PassesOwn.never rfl (qaL (pv 1)) (qau (i:=2) sc.nd rfl (Or.inl rfl)) (qaf (qaz (qap (qdz (K:=K) rfl hr.units0) (qbq (pv 0) Z.cl C_40 hr (by decide) (qaa (pv 2) qab)) qaj (qas _)) (qaf (qai qcN)) qal)))
   (qaf (qai qcN))),?_⟩
 refine rdg (σ':=[some x0,some x1,none]) rfl ?_
 obtain ⟨d,pk,p,ws,m,m',rows,rfl,D,rfl,f1,hl,hR,q⟩:=h
 obtain ⟨kv0,c0,_⟩:=D.dc
 have np:p≠pk:=fun e=>by rw [e,c0] at f1;cases f1
 walk_at "rd"
 refine ⟨⟨_,SqL.of f1⟩,qhV (xs:=sV rows) (fun i σ H'=>∃(v2:Option V) (mi:List (Str×List Nat)),σ=[some (.ref d),some (.ref p),v2]∧SmB pk H H'∧qcA cD H' d pk ws mi∧qdT MkR ws (rows.drop i) mi m') ⟨none,m,rfl,SmB.refl,D,hR⟩ (fun i σ H' _ ⟨_,_,_,s,_⟩=>SqL.of (s _ _ f1 np)) ?_ ?_⟩
 · rintro i x σ H4 hx ⟨v2,mi,rfl,s4,D4,hi⟩ N hN
   rw [List.getElem?_map] at hx
   cases eb:rows[i]? with
   | none=>rw [eb] at hx;cases hx
   | some z =>
     rw [eb] at hx
     cases hx
     have lt:=(List.getElem?_eq_some_iff.mp eb).1
     rw [List.drop_eq_getElem_cons lt,(List.getElem?_eq_some_iff.mp eb).2] at hi
     obtain ⟨m1,⟨deed,r,ks,n,qeE,gs,hP,hT,k0,hM,hF,hm,rfl⟩,hi⟩:=qiP hi
     obtain ⟨dx4,pw4,o4,_⟩:=D4.ob
     (try walk_at "rd")
     refine ⟨dx4,_,o4,qbT _ _ (by decide +kernel) (by decide +kernel),_,_,rfl,d,pk,ws,mi,z,deed,r,ks,_,rfl,D4,rfl,hP,hT,.inl ⟨n,qeE,gs,k0,rfl,hM,hF,hm,fun H5 s5 D5=>?_⟩⟩
     (try walk_at "rd")
     exact ⟨false,rfl,qeO (hN _ _ ⟨_,_,rfl,fun b o e n=>s5 b o (s4 b o e n) n,D5,hi⟩)⟩
 · rintro σ H4 ⟨v2,mi,rfl,s4,D4,hi⟩
   rw [qbo,List.drop_length] at hi
   cases hi
   (try walk_at "rd")
   exact q _ s4 D4
abbrev qbx:Stmt:=top 93
theorem qdA:qao ["_law_desk", "_law_one", "_law_other"] ["_law_desk", "_law_one", "_law_other"] (qac qbx):=⟨rfl,rfl,rfl,by decide +kernel,rfl,by decide +kernel,by decide +kernel⟩
theorem qjg {n:Str} (h:Tx.Wd n):Prt (Str.ofString "show " ++ n) "show" [n] ["family"]:=by
 have e:Str.ofString "show " ++ n=pre ["show"] n:=by
   show _=(("show" : Str) ++ " ")++n
   rw [show (("show" : Str) ++ " ")=Str.ofString "show " by decide +kernel]
 rw [e]
 refine qiR (ds:=[]) (by decide +kernel) (by decide +kernel) (fun x hx=>?_) (h.free (by decide)) rfl ?_
 · rw [List.mem_singleton.mp hx]
   decide +kernel
 · rw [←e,Str.length_append]
   have h1:(Str.ofString "show ").length=5:=by decide +kernel
   have:=h.2.1
   omega
def qdO (cD:Addr):Sp:=sp3 fun x y z H Q=>∃(d pk:Addr) (ws:List Str) (m:List (Str×List Nat)) (n1 n2:Str) (fs:List Nat),x = .ref d∧qcA cD H d pk ws m∧y = .str n1∧Tx.Wd n1∧m.lookup n1=some fs∧z = .str n2∧Tx.Wd n2∧m.lookup n2=some fs∧∀H',Same H H'→Q (.bl true) H'
theorem qgQ {f:Addr} {fd:FuncData} (F:Fun K "_law_alike" "_law_alike" qbx f fd) (T:Txt mg) {cD aW:Addr} (Z:Xt P w K mg cD aW) {f_40:Addr} {fd_40:FuncData} (C_40:qfq P w K mg base cD "say" 6 ["self", "row"] (ql7 cD) f_40 fd_40):qa1 P w K mg base CX0 7 f fd ["_law_desk", "_law_one", "_law_other"] (qdO cD):=by
 have sc:=qdA
 refine F.ok qdA (fun vs H Q E h=>by obtain ⟨_,_,_,rfl,_⟩:=h;rfl) (fun cdv A outer s H vs Q E hr h=>?_)
 obtain ⟨x0,x1,x2,rfl,h⟩:=h
 refine ⟨_,(qaf (qai (qgP (qaC (K:=K) rfl hr.units0) (qbq (pv 0) Z.cl C_40 hr (by decide) (qaa (qar qaM qaj (pv 1)) qab)) (qbq (pv 0) Z.cl C_40 hr (by decide) (qaa (qar qaM qaj (pv 2)) qab)) (qas _)))),?_⟩
 refine rdg (σ':=[some x0,some x1,some x2]) rfl ?_
 obtain ⟨d,pk,ws,m,n1,n2,fs,rfl,D,rfl,w1,e1,rfl,w2,e2,q⟩:=h
 obtain ⟨dx,pw,o1,_⟩:=D.ob
 have hF:=D.fm _ _ e1
 have h5:(Str.ofString "show ").length=5:=by decide +kernel
 have z1:=w1.2.1
 have z2:=w2.2.1
 have zz:100000≤sizeLine:=by decide
 walk_at "rd"
 refine ⟨dx,_,o1,qbT _ _ (by decide +kernel) (by decide +kernel),by omega,_,_,rfl,d,pk,ws,m,_, "show",[n1],["family"],[.fm fs],rfl,D,rfl,qjg w1,qdi (.fam e1),.inr ⟨"family",_,rfl,by decide +kernel,.show hF,fun H1 s1=>?_⟩⟩
 have D1:=D.same s1
 obtain ⟨dx1,pw1,o1',_⟩:=D1.ob
 refine ⟨dx1,_,o1',qbT _ _ (by decide +kernel) (by decide +kernel),by omega,_,_,rfl,d,pk,ws,m,_, "show",[n2],["family"],[.fm fs],rfl,D1,rfl,qjg w2,qdi (.fam e2),.inr ⟨"family",_,rfl,by decide +kernel,.show hF,fun H2 s2=>⟨_,.inl ⟨rfl,rfl⟩,?_⟩⟩⟩
 rw [decide_eq_true rfl]
 exact q _ (s1.trans s2)
abbrev qbi:Stmt:=top 94
theorem qc7:qao ["_law_desk"] ["_law_desk"] (qac qbi):=⟨rfl,rfl,rfl,by decide +kernel,rfl,by decide +kernel,by decide +kernel⟩
section
variable {ws:List Str} {m:List (Str×List Nat)} {z n a b w:Str} {A B:List Nat}
theorem qdU (h8:ws.length≤8) (A:List Nat):Fml ws.length (Fam.hits ws.length A):=⟨Fam.hits_rise _ _,fun _ h=>Fam.hits_lt _ h,qhc h8 (Fam.hits_rise _ _) Fam.hits_lt Fam.hits_anti⟩
theorem qjH (h8:ws.length≤8) (hA:Fml ws.length A) (hB:Fml ws.length B):Fml ws.length (qeg A B):=⟨qfR _ _,qg2 hA.lt hB.lt,qhc h8 (qfR _ _) (qg2 hA.lt hB.lt) (qgg _ _)⟩
theorem qn8 (h8:ws.length≤8) (hA:Fml ws.length A) (hB:Fml ws.length B):Fml ws.length (bo A B):=⟨qiY _ _,qnE hA.lt hB.lt,qhc h8 (qiY _ _) (qnE hA.lt hB.lt) (qjv _ _)⟩
theorem qcq (h8:ws.length≤8) (hP:Prt z "hits" [n,a] ["new", "family"]) (hn:Tx.Wd n) (ha:m.lookup a=some A) (hA:Fml ws.length A) (hr:m.lookup n≠none∨m.length<20):qgF MkR ws m z (qaI m n (Fam.hits ws.length A)) :=
 ⟨"hits",_,_,n,[.fm A],_,hP,(qdi (.fam ha)).cons (.new hn),rfl,.hits hA,qdU h8 A,hr,rfl⟩
theorem qef (h8:ws.length≤8) (hP:Prt z "either" [n,a,b] ["new", "family", "family"]) (hn:Tx.Wd n) (ha:m.lookup a=some A) (hA:Fml ws.length A) (hb:m.lookup b=some B) (hB:Fml ws.length B) (hr:m.lookup n≠none∨m.length<20):qgF MkR ws m z (qaI m n (qeg A B)) :=
 ⟨"either",_,_,n,[.fm A,.fm B],_,hP,qhr.cons (.new hn) (qhr.cons (.fam ha) (qdi (.fam hb))),rfl,.either hA hB,qjH h8 hA hB,hr,rfl⟩
theorem qjn (h8:ws.length≤8) (hP:Prt z "both" [n,a,b] ["new", "family", "family"]) (hn:Tx.Wd n) (ha:m.lookup a=some A) (hA:Fml ws.length A) (hb:m.lookup b=some B) (hB:Fml ws.length B) (hr:m.lookup n≠none∨m.length<20):qgF MkR ws m z (qaI m n (bo A B)) :=
 ⟨"both",_,_,n,[.fm A,.fm B],_,hP,qhr.cons (.new hn) (qhr.cons (.fam ha) (qdi (.fam hb))),rfl,.both hA hB,qn8 h8 hA hB,hr,rfl⟩
end
def N16:List Str:=["a", "b", "s", "h", "g", "k", "r", "q", "e", "x", "y", "f", "v", "w", "i", "o"]
theorem qbu:N16.Nodup:=by decide +kernel
def qfd (cD:Addr):Sp:=sp1 fun x H Q=>∃(d pk:Addr) (ws:List Str) (m:List (Str×List Nat)) (A B:List Nat),x = .ref d∧qcA cD H d pk ws m∧Bud N16 m∧m.lookup ("a" : Str)=some A∧m.lookup ("b" : Str)=some B∧m.lookup ("h" : Str)=some (Fam.hits ws.length A)∧m.lookup ("k" : Str)=some (Fam.hits ws.length B)∧∀H' m',SmB pk H H'→qcA cD H' d pk ws m'→Bud N16 m'→(∀x:Str,x∉[("e" : Str), "x", "y", "f", "v", "w"]→m'.lookup x=m.lookup x)→Q (.bl true) H'
theorem qfY {f:Addr} {fd:FuncData} (F:Fun K "_law_joined" "_law_joined" qbi f fd) (T:Txt mg) {cD aW:Addr} (Z:Xt P w K mg cD aW) {f_41:Addr} {fd_41:FuncData} (C_41:Cal P w K mg base "_law_all" 7 ["_law_desk", "_law_rows"] (qh5 cD) f_41 fd_41) {f_22:Addr} {fd_22:FuncData} (C_22:Cal P w K mg base "_law_alike" 7 ["_law_desk", "_law_one", "_law_other"] (qdO cD) f_22 fd_22):qa1 P w K mg base CX0 8 f fd ["_law_desk"] (qfd cD):=by
 have sc:=qc7
 refine F.ok qc7 (fun vs H Q E h=>by obtain ⟨_,rfl,_⟩:=h;rfl) (fun cdv A outer s H vs Q E hr h=>?_)
 obtain ⟨x0,rfl,h⟩:=h
 refine ⟨_,(qad (qaz (qbk (qa3 (qah C_41 hr (by decide) (by rfl) (qaa (pv 0) (qaa (qa2 (qbr qaj (qbr qaj (qbr qaj (qbr qaj (qbr qaj (qbr qaj qab))))))) qab))))) (qaf (qai qcN)) qal)
   (qaf (qai (qjm (qah C_22 hr (by decide) (by rfl) (qaa (pv 0) (qaa qaj (qaa qaj qab)))) (qjJ (qah C_22 hr (by decide) (by rfl) (qaa (pv 0) (qaa qaj (qaa qaj qab))))))))),?_⟩
 refine rdg (σ':=[some x0]) rfl ?_
 obtain ⟨d,pk,ws,m,A,B,rfl,D,b,la,lb,lh,lk,q⟩:=h
 walk_at "rd"
 have h8:=D.wd.few
 have hA:=D.fm _ _ la
 have hB:=D.fm _ _ lb
 have hHA:=qdU h8 A
 have hHB:=qdU h8 B
 have hE:=qjH h8 hA hB
 have hO:=qn8 h8 hA hB
 refine ⟨qaH (by simp),fun p hp=>?_⟩
 generalize g1:upd H p _=G1
 have a1:=qaw g1
 have s1:=qaq g1 hp
 have b1:=b.put qbu (n := "e") (by decide +kernel) (qeg A B)
 have b2:=b1.put qbu (n := "x") (by decide +kernel) (Fam.hits ws.length (qeg A B))
 have b3:=b2.put qbu (n := "y") (by decide +kernel) (bo (Fam.hits ws.length A) (Fam.hits ws.length B))
 have b4:=b3.put qbu (n := "f") (by decide +kernel) (bo A B)
 have b5:=b4.put qbu (n := "v") (by decide +kernel) (Fam.hits ws.length (bo A B))
 have b6:=b5.put qbu (n := "w") (by decide +kernel) (qeg (Fam.hits ws.length A) (Fam.hits ws.length B))
 have R:qdT MkR ws [Str.ofString "either e a b",Str.ofString "hits x e",Str.ofString "both y h k",Str.ofString "both f a b",Str.ofString "hits v f",Str.ofString "either w h k"] m _ :=
   ⟨_,qef h8 (show Prt (Str.ofString "either e a b") "either" ["e", "a", "b"] ["new", "family", "family"] from ⟨by decide +kernel,by decide +kernel,by decide +kernel,rfl,by decide +kernel⟩) ⟨by decide +kernel,by decide +kernel,by decide +kernel⟩ la hA lb hB (b.room (by decide) _),
    _,qcq h8 (show Prt (Str.ofString "hits x e") "hits" ["x", "e"] ["new", "family"] from ⟨by decide +kernel,by decide +kernel,by decide +kernel,rfl,by decide +kernel⟩) ⟨by decide +kernel,by decide +kernel,by decide +kernel⟩ (by rw [qae,if_pos rfl]) hE (b1.room (by decide) _),
    _,qjn h8 (show Prt (Str.ofString "both y h k") "both" ["y", "h", "k"] ["new", "family", "family"] from ⟨by decide +kernel,by decide +kernel,by decide +kernel,rfl,by decide +kernel⟩) ⟨by decide +kernel,by decide +kernel,by decide +kernel⟩ (by (repeat rw [qae,if_neg (by decide +kernel)]);exact lh) hHA (by (repeat rw [qae,if_neg (by decide +kernel)]);exact lk) hHB (b2.room (by decide) _),
    _,qjn h8 (show Prt (Str.ofString "both f a b") "both" ["f", "a", "b"] ["new", "family", "family"] from ⟨by decide +kernel,by decide +kernel,by decide +kernel,rfl,by decide +kernel⟩) ⟨by decide +kernel,by decide +kernel,by decide +kernel⟩ (by (repeat rw [qae,if_neg (by decide +kernel)]);exact la) hA (by (repeat rw [qae,if_neg (by decide +kernel)]);exact lb) hB (b3.room (by decide) _),
    _,qcq h8 (show Prt (Str.ofString "hits v f") "hits" ["v", "f"] ["new", "family"] from ⟨by decide +kernel,by decide +kernel,by decide +kernel,rfl,by decide +kernel⟩) ⟨by decide +kernel,by decide +kernel,by decide +kernel⟩ (by rw [qae,if_pos rfl]) hO (b4.room (by decide) _),
    _,qef h8 (show Prt (Str.ofString "either w h k") "either" ["w", "h", "k"] ["new", "family", "family"] from ⟨by decide +kernel,by decide +kernel,by decide +kernel,rfl,by decide +kernel⟩) ⟨by decide +kernel,by decide +kernel,by decide +kernel⟩ (by (repeat rw [qae,if_neg (by decide +kernel)]);exact lh) hHA (by (repeat rw [qae,if_neg (by decide +kernel)]);exact lk) hHB (b5.room (by decide) _),rfl⟩
 refine ⟨_,_,rfl,d,pk,p,ws,m,_,[Str.ofString "either e a b",Str.ofString "hits x e",Str.ofString "both y h k",Str.ofString "both f a b",Str.ofString "hits v f",Str.ofString "either w h k"],rfl,D.same s1,rfl,a1,by simp,R,fun H2 s2 D2=>⟨true,rfl,?_⟩⟩
 rw [if_neg (by decide)]
 have e1:=Fam.hits_either (qg2 hA.lt hB.lt) hA.lt hB.lt (qjO A B) (qiY _ _) (qnE Fam.hits_lt Fam.hits_lt) (qjv _ _) (qoo (Fam.hits ws.length A) (Fam.hits ws.length B))
 have e2:=Fam.hits_both (qnE hA.lt hB.lt) hA.lt hB.lt (qoo A B) (qfR _ _) (qg2 Fam.hits_lt Fam.hits_lt) (qgg _ _) (qjO (Fam.hits ws.length A) (Fam.hits ws.length B))
 refine ⟨_,_,_,rfl,d,pk,ws,_, "x", "y",_,rfl,D2,rfl,⟨by decide +kernel,by decide +kernel,by decide +kernel⟩,by (repeat rw [qae,if_neg (by decide +kernel)]);rw [qae,if_pos rfl],rfl,⟨by decide +kernel,by decide +kernel,by decide +kernel⟩,by (repeat rw [qae,if_neg (by decide +kernel)]);rw [qae,if_pos rfl,e1],fun H3 s3=>⟨true,rfl,qiH ?_⟩⟩
 refine ⟨_,_,_,rfl,d,pk,ws,_, "v", "w",_,rfl,D2.same s3,rfl,⟨by decide +kernel,by decide +kernel,by decide +kernel⟩,by (repeat rw [qae,if_neg (by decide +kernel)]);rw [qae,if_pos rfl],rfl,⟨by decide +kernel,by decide +kernel,by decide +kernel⟩,by rw [qae,if_pos rfl,e2],fun H4 s4=>q _ _ (fun b o e n=>s4 _ _ (s3 _ _ (s2 b o (s1 _ _ e) n))) ((D2.same s3).same s4) b6 fun x hx=>?_⟩
 have ne:∀y∈[("e" : Str), "x", "y", "f", "v", "w"],¬x=y:=fun y hy e=>hx (e▸hy)
 rw [qae,if_neg (ne _ (by simp)),qae,if_neg (ne _ (by simp)),qae,if_neg (ne _ (by simp)),qae,if_neg (ne _ (by simp)),qae,if_neg (ne _ (by simp)),qae,if_neg (ne _ (by simp))]
abbrev qbD:Stmt:=top 95
theorem qdJ:qao ["_law_desk", "_law_word"] ["_law_desk", "_law_word"] (qac qbD):=⟨rfl,rfl,rfl,by decide +kernel,rfl,by decide +kernel,by decide +kernel⟩
theorem qeS (a b c:Str):a++b++c=a++(b++c):=congrArg Str.mk Array.append_assoc
theorem qgr:∀(ds:List Str) (w:Str),pre ds w=pre ds Str.empty++w
 | [],w=>by
   show w=(⟨#[]++w.cps⟩:Str)
   rw [Array.empty_append]
 | d::ds,w=>by
   show d ++ " " ++ pre ds w=(d ++ " " ++ pre ds Str.empty)++w
   rw [qgr ds w,qeS,qeS,qeS]
theorem qeI {z d w:Str} {ds ks:List Str} (hz:z=pre (d::ds) Str.empty) (h1:wanted d=some ks) (hd:¬d = "let") (hf:∀x∈d::ds,32∉Tx.sg x) (hw:Tx.Wd w) (hl:ds.length+1=ks.length) (hs:z.length≤100):Prt (z++w) d (ds++[w]) ks:=by
 have e:z++w=pre (d::ds) w:=by rw [qgr,hz]
 rw [e]
 refine qiR h1 hd hf (hw.free (by decide)) hl ?_
 rw [←e,Str.length_append]
 have:=hw.2.1
 omega
theorem qmk {ws:List Str} {A:List Nat} (h8:ws.length≤8) (hA:Fml ws.length A) (k:Nat):Fml ws.length (inn A k):=⟨qg5 _ _,qjf hA.lt,qhc h8 (qg5 _ _) (qjf hA.lt) (Fam.mins_alone (qaU _))⟩
theorem qlz {ws:List Str} {A:List Nat} (h8:ws.length≤8) (hA:Fml ws.length A) (k:Nat):Fml ws.length (Fam.outs (Fam.mins (sd A)) k):=⟨qdD _ (Fam.mins_rise (qaU _)),qmp hA.lt,qhc h8 (qdD _ (Fam.mins_rise (qaU _))) (qmp hA.lt) (Fam.outs_anti (Fam.mins_alone (qaU _)))⟩
theorem qnT {ws:List Str} {m:List (Str×List Nat)} {z n a w:Str} {A:List Nat} (h8:ws.length≤8) (hP:Prt z "in" [n,a,w] ["new", "family", "name"]) (hn:Tx.Wd n) (ha:m.lookup a=some A) (hA:Fml ws.length A) (hw:w∈ws) (hr:m.lookup n≠none∨m.length<20):qgF MkR ws m z (qaI m n (inn A (ws.idxOf w))) :=
 ⟨"in",_,_,n,[.fm A,.nu (ws.idxOf w)],_,hP,qhr.cons (.new hn) (qhr.cons (.fam ha) (qdi (.name hw))),rfl,.inn hA (List.idxOf_lt_length_of_mem hw),qmk h8 hA _,hr,rfl⟩
theorem qmo {ws:List Str} {m:List (Str×List Nat)} {z n a w:Str} {A:List Nat} (h8:ws.length≤8) (hP:Prt z "out" [n,a,w] ["new", "family", "name"]) (hn:Tx.Wd n) (ha:m.lookup a=some A) (hA:Fml ws.length A) (hw:w∈ws) (hr:m.lookup n≠none∨m.length<20):qgF MkR ws m z (qaI m n (Fam.outs (Fam.mins (sd A)) (ws.idxOf w))) :=
 ⟨"out",_,_,n,[.fm A,.nu (ws.idxOf w)],_,hP,qhr.cons (.new hn) (qhr.cons (.fam ha) (qdi (.name hw))),rfl,.out hA (List.idxOf_lt_length_of_mem hw),qlz h8 hA _,hr,rfl⟩
def qg9 (cD:Addr):Sp:=sp2 fun x y H Q=>∃(d pk:Addr) (ws:List Str) (m:List (Str×List Nat)) (A:List Nat) (w:Str),x = .ref d∧qcA cD H d pk ws m∧Bud N16 m∧m.lookup ("a" : Str)=some A∧m.lookup ("h" : Str)=some (Fam.hits ws.length A)∧y = .str w∧w∈ws∧∀H' m',SmB pk H H'→qcA cD H' d pk ws m'→Bud N16 m'→(∀x:Str,x∉[("i" : Str), "x", "y", "o"]→m'.lookup x=m.lookup x)→Q (.bl true) H'
theorem qgm {f:Addr} {fd:FuncData} (F:Fun K "_law_fixed" "_law_fixed" qbD f fd) (T:Txt mg) {cD aW:Addr} (Z:Xt P w K mg cD aW) {f_22:Addr} {fd_22:FuncData} (C_22:Cal P w K mg base "_law_alike" 7 ["_law_desk", "_law_one", "_law_other"] (qdO cD) f_22 fd_22) {f_41:Addr} {fd_41:FuncData} (C_41:Cal P w K mg base "_law_all" 7 ["_law_desk", "_law_rows"] (qh5 cD) f_41 fd_41):qa1 P w K mg base CX0 8 f fd ["_law_desk", "_law_word"] (qg9 cD):=by
 have sc:=qdJ
 refine F.ok qdJ (fun vs H Q E h=>by obtain ⟨_,_,rfl,_⟩:=h;rfl) (fun cdv A outer s H vs Q E hr h=>?_)
 obtain ⟨x0,x1,rfl,h⟩:=h
 refine ⟨_,(qad (qaz (PW.pt (qhJ (qbk (qa3 (qah C_41 hr (by decide) (by rfl) (qaa (pv 0) (qaa (qa2 (qaa (qar qaM qaj (pv 1)) (qaa qaj (qaa (qar qaM qaj (pv 1)) qab)))) qab))))) (qfG (qbk (qa3 (qah C_22 hr (by decide) (by rfl) (qaa (pv 0) (qaa qaj (qaa qaj qab))))))))) (qaf (qai qcN)) qal)
   (qad (qaz (qbk (qa3 (qah C_41 hr (by decide) (by rfl) (qaa (pv 0) (qaa (qa2 (qaa (qar qaM qaj (pv 1)) (qaa qaj (qaa (qar qaM qaj (pv 1)) qab)))) qab))))) (qaf (qai qcN)) qal)
   (qaf (qai (qah C_22 hr (by decide) (by rfl) (qaa (pv 0) (qaa qaj (qaa qaj qab)))))))),?_⟩
 refine rdg (σ':=[some x0,some x1]) rfl ?_
 obtain ⟨d,pk,ws,m,A,w,rfl,D,b,la,lh,rfl,hw,q⟩:=h
 have ww:=D.wd.wd w hw
 have P1:Prt (Str.ofString "in i a " ++ w) "in" ["i", "a",w] ["new", "family", "name"]:=qeI (ds:=["i", "a"]) (by decide +kernel) (by decide +kernel) (by decide +kernel) (by decide +kernel) ww rfl (by decide +kernel)
 have P2:Prt (Str.ofString "hits x i") "hits" ["x", "i"] ["new", "family"]:=⟨by decide +kernel,by decide +kernel,by decide +kernel,rfl,by decide +kernel⟩
 have P3:Prt (Str.ofString "out y h " ++ w) "out" ["y", "h",w] ["new", "family", "name"]:=qeI (ds:=["y", "h"]) (by decide +kernel) (by decide +kernel) (by decide +kernel) (by decide +kernel) ww rfl (by decide +kernel)
 have P4:Prt (Str.ofString "out o a " ++ w) "out" ["o", "a",w] ["new", "family", "name"]:=qeI (ds:=["o", "a"]) (by decide +kernel) (by decide +kernel) (by decide +kernel) (by decide +kernel) ww rfl (by decide +kernel)
 have P5:Prt (Str.ofString "hits x o") "hits" ["x", "o"] ["new", "family"]:=⟨by decide +kernel,by decide +kernel,by decide +kernel,rfl,by decide +kernel⟩
 have P6:Prt (Str.ofString "in y h " ++ w) "in" ["y", "h",w] ["new", "family", "name"]:=qeI (ds:=["y", "h"]) (by decide +kernel) (by decide +kernel) (by decide +kernel) (by decide +kernel) ww rfl (by decide +kernel)
 have h8:=D.wd.few
 have hA:=D.fm _ _ la
 have hH:=qdU h8 A
 have hk:=List.idxOf_lt_length_of_mem hw
 have lw:=ww.2.1
 have zz:100000≤sizeLine:=by decide
 have l1:(Str.ofString "in i a ").length≤9:=by decide +kernel
 have l2:(Str.ofString "out y h ").length≤9:=by decide +kernel
 have l3:(Str.ofString "out o a ").length≤9:=by decide +kernel
 have l4:(Str.ofString "in y h ").length≤9:=by decide +kernel
 walk_at "rd"
 generalize hkk:ws.idxOf w=k at hk
 refine ⟨by omega,by omega,qaH (by simp),fun p hp=>?_⟩
 generalize g1:upd H p _=G1
 have a1:=qaw g1
 have s1:=qaq g1 hp
 have b1:=b.put qbu (n := "i") (by decide +kernel) (inn A (ws.idxOf w))
 have b2:=b1.put qbu (n := "x") (by decide +kernel) (Fam.hits ws.length (inn A (ws.idxOf w)))
 have b3:=b2.put qbu (n := "y") (by decide +kernel) (Fam.outs (Fam.mins (sd (Fam.hits ws.length A))) (ws.idxOf w))
 have b4:=b3.put qbu (n := "o") (by decide +kernel) (Fam.outs (Fam.mins (sd A)) (ws.idxOf w))
 have b5:=b4.put qbu (n := "x") (by decide +kernel) (Fam.hits ws.length (Fam.outs (Fam.mins (sd A)) (ws.idxOf w)))
 have b6:=b5.put qbu (n := "y") (by decide +kernel) (inn (Fam.hits ws.length A) (ws.idxOf w))
 have R1:qdT MkR ws [Str.ofString "in i a " ++ w,Str.ofString "hits x i",Str.ofString "out y h " ++ w] m _ :=
   ⟨_,qnT h8 P1 ⟨by decide +kernel,by decide +kernel,by decide +kernel⟩ la hA hw (b.room (by decide) _),_,qcq h8 P2 ⟨by decide +kernel,by decide +kernel,by decide +kernel⟩ (by rw [qae,if_pos rfl]) (qmk h8 hA _) (b1.room (by decide) _),_,qmo h8 P3 ⟨by decide +kernel,by decide +kernel,by decide +kernel⟩ (by (repeat rw [qae,if_neg (by decide +kernel)]);exact lh) hH hw (b2.room (by decide) _),rfl⟩
 refine ⟨_,_,rfl,d,pk,p,ws,m,_,[Str.ofString "in i a " ++ w,Str.ofString "hits x i",Str.ofString "out y h " ++ w],rfl,D.same s1,rfl,a1,by simp,R1,fun H2 s2 D2=>⟨true,rfl,?_⟩⟩
 rw [if_neg (by decide)]
 have e1:Fam.hits ws.length (inn A (ws.idxOf w))=Fam.outs (Fam.mins (sd (Fam.hits ws.length A))) (ws.idxOf w):=by
   rw [qly (Fam.hits_rise _ A),Fam.mins_hits]
   exact Fam.hits_in (hkk▸hk) (qjf hA.lt) hA.lt (qlp A _)
 have e2:Fam.hits ws.length (Fam.outs (Fam.mins (sd A)) (ws.idxOf w))=inn (Fam.hits ws.length A) (ws.idxOf w):=Fam.hits_out (hkk▸hk) (qmp hA.lt) hA.lt (qo6 A _) (qg5 _ _) (qjf Fam.hits_lt) (Fam.mins_alone (qaU _)) (qlp (Fam.hits ws.length A) _)
 refine ⟨_,_,_,rfl,d,pk,ws,_, "x", "y",_,rfl,D2,rfl,⟨by decide +kernel,by decide +kernel,by decide +kernel⟩,(by (repeat rw [qae,if_neg (by decide +kernel)]);rw [qae,if_pos rfl]),rfl,⟨by decide +kernel,by decide +kernel,by decide +kernel⟩,by rw [qae,if_pos rfl,e1],fun H3 s3=>⟨true,rfl,?_⟩⟩
 rw [if_neg (by decide)]
 refine ⟨by omega,by omega,qaH (by simp),fun p4 hp4=>?_⟩
 generalize g4:upd H3 p4 _=G4
 have a4:=qaw g4
 have s4:=qaq g4 hp4
 have R2:=(show qdT MkR ws [Str.ofString "out o a " ++ w,Str.ofString "hits x o",Str.ofString "in y h " ++ w] (qaI (qaI (qaI m "i" (inn A (ws.idxOf w))) "x" (Fam.hits ws.length (inn A (ws.idxOf w)))) "y" (Fam.outs (Fam.mins (sd (Fam.hits ws.length A))) (ws.idxOf w))) (qaI (qaI (qaI (qaI (qaI (qaI m "i" (inn A (ws.idxOf w))) "x" (Fam.hits ws.length (inn A (ws.idxOf w)))) "y" (Fam.outs (Fam.mins (sd (Fam.hits ws.length A))) (ws.idxOf w))) "o" (Fam.outs (Fam.mins (sd A)) (ws.idxOf w))) "x" (Fam.hits ws.length (Fam.outs (Fam.mins (sd A)) (ws.idxOf w)))) "y" (inn (Fam.hits ws.length A) (ws.idxOf w))) from
   ⟨_,qmo h8 P4 ⟨by decide +kernel,by decide +kernel,by decide +kernel⟩ (by (repeat rw [qae,if_neg (by decide +kernel)]);exact la) hA hw (b3.room (by decide) _),_,qcq h8 P5 ⟨by decide +kernel,by decide +kernel,by decide +kernel⟩ (by rw [qae,if_pos rfl]) (qlz h8 hA _) (b4.room (by decide) _),_,qnT h8 P6 ⟨by decide +kernel,by decide +kernel,by decide +kernel⟩ (by (repeat rw [qae,if_neg (by decide +kernel)]);exact lh) hH hw (b5.room (by decide) _),rfl⟩)
 refine ⟨_,_,rfl,d,pk,p4,ws,_,_,[Str.ofString "out o a " ++ w,Str.ofString "hits x o",Str.ofString "in y h " ++ w],rfl,(D2.same s3).same s4,rfl,a4,by simp,R2,fun H5 s5 D5=>⟨true,rfl,?_⟩⟩
 rw [if_neg (by decide)]
 refine ⟨_,_,_,rfl,d,pk,ws,_, "x", "y",_,rfl,D5,rfl,⟨by decide +kernel,by decide +kernel,by decide +kernel⟩,(by (repeat rw [qae,if_neg (by decide +kernel)]);rw [qae,if_pos rfl]),rfl,⟨by decide +kernel,by decide +kernel,by decide +kernel⟩,by rw [qae,if_pos rfl,e2],fun H6 s6=>q _ _ (fun b o e n=>s6 _ _ (s5 b o (s4 _ _ (s3 _ _ (s2 b o (s1 _ _ e) n))) n)) (D5.same s6) b6 fun x hx=>?_⟩
 have ne:∀y∈[("i" : Str), "x", "y", "o"],¬x=y:=fun y hy e=>hx (e▸hy)
 rw [qae,if_neg (ne _ (by simp)),qae,if_neg (ne _ (by simp)),qae,if_neg (ne _ (by simp)),qae,if_neg (ne _ (by simp)),qae,if_neg (ne _ (by simp)),qae,if_neg (ne _ (by simp))]
abbrev qg7:Stmt:=top 96
theorem qos:qao ["_law_script", "_law_many", "_law_words_here", "_law_desk", "_law_one", "_law_other", "_law_rows", "_law_word", "_law_shown", "_law_text_here"] ["_law_script"] (qac qg7):=⟨rfl,rfl,rfl,by decide +kernel,rfl,by decide +kernel,by decide +kernel⟩
theorem ql8 {ws:List Str} {m:List (Str×List Nat)} {z n:Str} {A:List Nat} (hP:Prt z "let" [n,Tx.fT ws A] ["new", "text"]) (hn:Tx.Wd n) (hA:Fml ws.length A) (hr:m.lookup n≠none∨m.length<20):qgF MkR ws m z (qaI m n A) :=
 ⟨"let",_,_,n,[.fm A],_,hP,(qdi (.text hA)).cons (.new hn),rfl,.let,hA,hr,rfl⟩
theorem qhO {ws:List Str} {m:List (Str×List Nat)} {z n a:Str} {A:List Nat} (hP:Prt z "rests" [n,a] ["new", "family"]) (hn:Tx.Wd n) (ha:m.lookup a=some A) (hA:Fml ws.length A) (hB:Fml ws.length (Fam.rsts ws.length A)) (hr:m.lookup n≠none∨m.length<20):qgF MkR ws m z (qaI m n (Fam.rsts ws.length A)) :=
 ⟨"rests",_,_,n,[.fm A],_,hP,(qdi (.fam ha)).cons (.new hn),rfl,.rests hA,hB,hr,rfl⟩
theorem qnP {b c k:Nat} (hk:b.testBit k=true) (h1:Fam.mt b c) (h2:¬Fam.mt (Fam.less b k) c):b&&&c=2^k:=by
 have key:∀j,b.testBit j=true→c.testBit j=true→j=k:=fun j hb hc=>by
   apply Classical.byContradiction
   intro hne
   exact h2 (Fam.mt_iff.mpr ⟨j,by rw [Fam.less_bit hk,hb];simpa using hne,hc⟩)
 obtain ⟨j,j1,j2⟩:=Fam.mt_iff.mp h1
 have:=key j j1 j2
 subst this
 refine Nat.eq_of_testBit_eq fun i=>?_
 rw [Nat.testBit_and,Nat.testBit_two_pow]
 by_cases c1:j=i
 · subst c1
   simp [j1,j2]
 · cases hb:b.testBit i<;>cases hc:c.testBit i<;>simp [c1]
   exact c1 (key i hb hc).symm
theorem qkd {m:Nat} {A:List Nat} {b:Nat} (bm:b∈Fam.hits m A):qfm A b=none∧qns A b=none:=by
 have b1:=(Fam.mem_hits.mp bm).1
 have bh:=(Fam.hit_less b1).mp bm
 refine ⟨(qjw A b).mpr bh.1,List.find?_eq_none.mpr fun k hk=>?_⟩
 have kb:=(Fam.mem_nms.mp hk).2
 have:=bh.2 k kb
 have hn:¬∀c∈A,Fam.mt (Fam.less b k) c:=fun z=>by rw [Fam.hitP_iff.mpr z] at this;cases this
 have ⟨c,hc,hmc⟩:∃c∈A,¬Fam.mt (Fam.less b k) c:=by
   apply Classical.byContradiction
   intro z
   exact hn fun c hc=>Classical.byContradiction fun y=>z ⟨c,hc,y⟩
 have e:=qnP kb (Fam.hitP_iff.mp bh.1 c hc) hmc
 have:(qdX A b k).isSome=true:=List.find?_isSome.mpr ⟨c,hc,decide_eq_true e⟩
 cases hq:qdX A b k with
 | none=>rw [hq] at this;cases this
 | some o=>simp
theorem qpi {m:Nat} {A:List Nat} (h:Fml m A):Fam.hits m (Fam.hits m A)=qeg A A:=by
 rw [Fam.hits_hits h.rise h.lt]
 unfold qeg
 rw [←qmB (fs:=A++A) h.rise fun x=>by simp]
theorem qjr {m:Nat} {A:List Nat} (h:Fml m A):Fml m (Fam.rsts m A):=⟨qg0 h.rise h.lt,qrg,by unfold Fam.rsts;rw [List.length_reverse,List.length_map];exact h.few⟩
theorem qjy {m:Nat} {fs gs:List Nat} (h:Fam.Each m fs gs):qpo m fs gs=[.str ("each" : Str)]:=by
 have e1:qhj fs gs=none:=List.find?_eq_none.mpr fun a ha=>by
   have:qj9 gs a=none:=List.find?_eq_none.mpr fun b hb=>by
     have:=h.1 a ha b hb
     simp [this]
   rw [this]
   decide
 have e2:qeh m fs gs=none:=List.find?_eq_none.mpr fun s hs=>by
   rcases h.2 s (List.mem_range.mp hs) with h | h<;>simp [h]
 unfold qpo
 rw [e1,e2]
theorem qll {m:Nat} {A:List Nat} (h:Fml m A):Fam.Each m A (Fam.hits m A):=(Fam.each_iff h.lt (Fam.hits_rise _ _) fun b hb=>Fam.hits_lt b hb).mpr (Fam.mins_hits m A).symm
theorem qkl {m:Nat} {A:List Nat} (h:Fml m A):Fam.trns m (Fam.sayP (Fam.hits m A))=Fam.trns m (Fam.sayP A):=(Fam.trns_congr fun s hs=>Fam.say_hits_du h.lt hs).trans Fam.trns_du
theorem qi4 (xs:List Str):∃r,_root_.PySem.Txt.split (_root_.PySem.Txt.join " " (("least" : Str)::xs)) " " = ("least" : Str)::r:=by
 have f:32∉Tx.sg ("least" : Str):=by decide +kernel
 cases xs with
 | nil =>
   rw [Tx.lit_space]
   exact ⟨[],Tx.split_join (ws:=[("least" : Str)]) (by simp) fun w hw=>by rw [List.mem_singleton.mp hw];exact f⟩
 | cons x xs =>
   rw [Tx.lit_space]
   refine ⟨_,Tx.split_cons (r:=_root_.PySem.Txt.join ⟨#[32]⟩ (x::xs)) ?_ f⟩
   have:=Tx.join_app (c:=32) (xs:=[("least" : Str)]) (ys:=x::xs) (by simp) (by simp)
   rw [show ("least" : Str)::x::xs=[("least" : Str)]++(x::xs) from rfl,←this,Tx.join_one,qjF,qjF,List.append_assoc]
   rfl
theorem _root_.L2.Same.smb {pk:Addr} {H H1:Hp} (h:Same H H1):SmB pk H H1:=fun b o e _=>h b o e
theorem SmB.same {pk:Addr} {H H1 H2:Hp} (h:SmB pk H H1) (s:Same H1 H2):SmB pk H H2:=fun b o e n=>s _ _ (h b o e n)
theorem qh8 (ws:List Str):wsT ws "each" [] = "each" := rfl
theorem qro {ws:List Str} {fs:List Nat} {a k:Nat} (hw:Tx.Wds ws) (hb:∀b∈fs,b<2^ws.length) (hk:k<ws.length):(lkT ws fs a k).length≤81:=by
 have g1:(ws.getD k Str.empty).length≤8:=by
   rw [List.getD_eq_getElem?_getD,List.getElem?_eq_getElem hk]
   exact (hw.wd _ (List.getElem_mem hk)).2.1
 have g2:(Str.ofString ":").length=1:=by decide +kernel
 have g3:((qdX fs a k).getD 0)<2^ws.length:=by
   cases e:qdX fs a k with
   | none=>exact Nat.two_pow_pos _
   | some o=>exact hb o (List.mem_of_find?_eq_some e)
 have g4:=Tx.sT_len hw g3
 unfold lkT
 rw [Str.length_append,Str.length_append]
 omega
theorem qlE {ws:List Str} {fs:List Nat} {a:Nat} (hw:Tx.Wds ws) (hb:∀b∈fs,b<2^ws.length) (ha:a<2^ws.length):(_root_.PySem.Txt.join " " (("least" : Str)::(Fam.nms 8 a).map (lkT ws fs a))).length≤100000:=by
 rw [←Tx.len_sg,Tx.lit_space,Tx.txt_join]
 have l8:(Fam.nms 8 a).length≤8:=Nat.le_trans (List.length_filter_le _ _) (by simp)
 refine Nat.le_trans (Tx.jn_len (M:=81) fun x hx=>?_) (show _*82≤_ by rw [List.length_map,List.length_cons,List.length_map];omega)
 obtain ⟨w,hw',rfl⟩:=List.mem_map.mp hx
 rw [Tx.len_sg]
 rcases List.mem_cons.mp hw' with rfl | h
 · decide +kernel
 · obtain ⟨k,hk,rfl⟩:=List.mem_map.mp h
   exact qro hw hb (Tx.nms_lt ha hk)
theorem qmP {ws:List Str} {a:Nat} (hw:Tx.Wds ws) (ha:a<2^ws.length):Prt (Str.ofString "look a " ++ Tx.sT ws a) "look" ["a",Tx.sT ws a] ["family", "set"]:=by
 have e:Str.ofString "look a " ++ Tx.sT ws a=pre ["look", "a"] (Tx.sT ws a):=by
   rw [qgr]
   congr 1
 rw [e]
 refine qiR (ds:=["a"]) (by decide +kernel) (by decide +kernel) (by decide +kernel) (Tx.sT_free hw ha) rfl ?_
 rw [←e,Str.length_append]
 have h1:(Str.ofString "look a ").length=7:=by decide +kernel
 have:=Tx.sT_len hw ha
 omega
theorem qlN {ws:List Str} {A:List Nat} {z n:Str} (hw:Tx.Wds ws) (hA:Fml ws.length A) (hz:z=pre ["let",n] Str.empty) (hn:32∉Tx.sg n) (hs:z.length≤100):Prt (z++Tx.fT ws A) "let" [n,Tx.fT ws A] ["new", "text"]:=by
 have e:z++Tx.fT ws A=pre ["let",n] (Tx.fT ws A):=by rw [qgr,hz]
 rw [e]
 refine qpy hn ?_
 rw [←e,Str.length_append]
 have:=Tx.fT_len hw hA.lt (by have:=hA.few;omega)
 omega
def qkM (K:W.Frag):Sp:=sp1 fun x H Q=>∃(a:Addr) (ns:List Int),x = .ref a∧SqL K H a (ns.map V.int)∧ns.length≤63∧∀H',Q (.bl true) H'
theorem qqG {f:Addr} {fd:FuncData} (F:Fun K "law" "law" qg7 f fd) (T:Txt mg) {cD aW:Addr} (Z:Xt P w K mg cD aW) {f_17:Addr} {fd_17:FuncData} (C_17:Cal P w K mg base "_law_words" 2 ["_law_cell_here", "_law_count"] (qeY K) f_17 fd_17) {f_07:Addr} {fd_07:FuncData} (C_07:qpV P w K mg base cD 3 ["self", "text"] (qlr cD) f_07 fd_07) {f_12:Addr} {fd_12:FuncData} (C_12:Cal P w K mg base "_law_family" 2 ["_law_script", "_law_start", "_law_many", "_law_most"] (qgx K) f_12 fd_12) {f_40:Addr} {fd_40:FuncData} (C_40:qfq P w K mg base cD "say" 6 ["self", "row"] (ql7 cD) f_40 fd_40) {f_32:Addr} {fd_32:FuncData} (C_32:Cal P w K mg base "_law_mix" 1 ["_law_cell_here", "_law_k"] qkU f_32 fd_32) {f_24:Addr} {fd_24:FuncData} (C_24:Cal P w K mg base "_law_cell" 1 ["_law_script", "_law_k"] (qjM K) f_24 fd_24) {f_41:Addr} {fd_41:FuncData} (C_41:Cal P w K mg base "_law_all" 7 ["_law_desk", "_law_rows"] (qh5 cD) f_41 fd_41) {f_26:Addr} {fd_26:FuncData} (C_26:Cal P w K mg base "_law_text" 2 ["_law_words_here", "_law_family_here"] (qi2 K) f_26 fd_26) {f_22:Addr} {fd_22:FuncData} (C_22:Cal P w K mg base "_law_alike" 7 ["_law_desk", "_law_one", "_law_other"] (qdO cD) f_22 fd_22) {f_16:Addr} {fd_16:FuncData} (C_16:Cal P w K mg base "_law_joined" 8 ["_law_desk"] (qfd cD) f_16 fd_16) {f_23:Addr} {fd_23:FuncData} (C_23:Cal P w K mg base "_law_fixed" 8 ["_law_desk", "_law_word"] (qg9 cD) f_23 fd_23):qa1 P w K mg base CX0 9 f fd ["_law_script"] (qkM K):=by
 have sc:=qos
 refine F.ok qos (fun vs H Q E h=>by obtain ⟨_,rfl,_⟩:=h;rfl) (fun cdv A outer s H vs Q E hr h=>?_)
 obtain ⟨x0,rfl,h⟩:=h
 refine ⟨_,(qad (qay (i:=1) sc.nd rfl (Or.inl rfl) (qar qbd (qah C_32 hr (by decide) (by rfl) (qaa (qah C_24 hr (by decide) (by rfl) (qaa (pv 0) (qaa qag qab))) (qaa qag qab))) qag))
   (qad (qaz (qap (qaC (K:=K) rfl hr.units0) (qar qbd (qah C_32 hr (by decide) (by rfl) (qaa (qah C_24 hr (by decide) (by rfl) (qaa (pv 0) (qaa qag qab))) (qaa qag qab))) qag) qag (qas _)) (qaf (qay (i:=1) sc.nd rfl (Or.inl rfl) (qar qbz qag (qar qbd (qah C_32 hr (by decide) (by rfl) (qaa (qah C_24 hr (by decide) (by rfl) (qaa (pv 0) (qaa qag qab))) (qaa qag qab))) qag)))) qal)
   (qad (qay (i:=2) sc.nd rfl (Or.inl rfl) (qah C_17 hr (by decide) (by rfl) (qaa (qah C_24 hr (by decide) (by rfl) (qaa (pv 0) (qaa qag qab))) (qaa (pv 1) qab))))
   (qad (qay (i:=3) sc.nd rfl (Or.inl rfl) (qmV C_07 hr (by decide) (by rfl) Z.gDesk (qaa (qb8 PySem.F.plainAttrs_str PySem.F.slot_str_join PySem.F.type_str_join (qce (K:=K) rfl) qaj (qaa (pv 2) qab)) qab)))
   (qad (qay (i:=4) sc.nd rfl (Or.inl rfl) (qah C_12 hr (by decide) (by rfl) (qaa (pv 0) (qaa qag (qaa (pv 1) (qaa qag qab))))))
   (qad (qay (i:=5) sc.nd rfl (Or.inl rfl) (qah C_12 hr (by decide) (by rfl) (qaa (pv 0) (qaa qag (qaa (pv 1) (qaa qag qab))))))
   (qad (qay (i:=6) sc.nd rfl (Or.inl rfl) (qa2 (qaa (qar qaM qaj (qah C_26 hr (by decide) (by rfl) (qaa (pv 2) (qaa (pv 4) qab)))) (qaa (qar qaM qaj (qah C_26 hr (by decide) (by rfl) (qaa (pv 2) (qaa (pv 5) qab)))) qab))))
   (qad (qay (i:=6) sc.nd rfl (Or.inl rfl) (qar (qg1 (K:=K) rfl) (pv 6) (qa2 (qbr qaj (qbr qaj (qbr qaj (qbr qaj (qbr qaj (qbr qaj qab)))))))))
   (qad (qaz (qbk (qa3 (qah C_41 hr (by decide) (by rfl) (qaa (pv 3) (qaa (pv 6) qab))))) (qaf (qai qcN)) qal)
   (qad (qaz (PW.pt (qhJ (qbk (qa3 (qah C_22 hr (by decide) (by rfl) (qaa (pv 3) (qaa qaj (qaa qaj qab)))))) (qhJ (qbk (qa3 (qah C_22 hr (by decide) (by rfl) (qaa (pv 3) (qaa qaj (qaa qaj qab)))))) (qfG (qbk (qa3 (qah C_16 hr (by decide) (by rfl) (qaa (pv 3) qab)))))))) (qaf (qai qcN)) qal)
   (qad (qaz (PW.pt (qhJ (qap (qdz (K:=K) rfl hr.units0) (qbq (pv 3) Z.cl C_40 hr (by decide) (qaa qaj qab)) qaj (qas _)) (qfG (qap (qdz (K:=K) rfl hr.units0) (qbq (pv 3) Z.cl C_40 hr (by decide) (qaa qaj qab)) qaj (qas _))))) (qaf (qai qcN)) qal)
   (qad (qbG PassesOwn.never rfl (qaL (pv 2)) (qau (i:=7) sc.nd rfl (Or.inl rfl)) (qaf (qaz (qbk (qa3 (qah C_23 hr (by decide) (by rfl) (qaa (pv 3) (qaa (pv 7) qab))))) (qaf (qai qcN)) qal)))
   (qad (qaz (qap (qdz (K:=K) rfl hr.units0) (qbq (pv 3) Z.cl C_40 hr (by decide) (qaa qaj qab)) (qbq (pv 3) Z.cl C_40 hr (by decide) (qaa qaj qab)) (qas _)) (qaf (qai qcN)) qal)
   (qad (qay (i:=8) sc.nd rfl (Or.inl rfl) (qbq (pv 3) Z.cl C_40 hr (by decide) (qaa qaj qab)))
   (qad (qbG PassesOwn.never rfl (qaL (qb8 PySem.F.plainAttrs_str PySem.F.slot_str_split PySem.F.type_str_split qdE (pv 8) (qaa qaj qab))) (qau (i:=9) sc.nd rfl (Or.inl rfl)) (qaf (qaz (PW.pt (qht (qap (qdz (K:=K) rfl hr.units0) (pv 8) qaj (qas _)) (qfT (qap (qdz (K:=K) rfl hr.units0) (qba (qcB (K:=K) rfl) (qb8 PySem.F.plainAttrs_str PySem.F.slot_str_split PySem.F.type_str_split qdE (qbq (pv 3) Z.cl C_40 hr (by decide) (qaa (qar qaM qaj (pv 9)) qab)) (qaa qaj qab)) qag (fun _ _=>rfl)) qaj (qas _))))) (qaf (qai qcN)) qal)))
   (qaf (qai qcN))))))))))))))))),?_⟩
 refine rdg (σ':=[some x0,none,none,none,none,none,none,none,none,none]) rfl ?_
 obtain ⟨a,ns,rfl,hS,hlen,q⟩:=h
 walk_at "rd"
 refine ⟨_,_,rfl,a,ns,0,rfl,hS,hlen,rfl,by omega,fun c0=>⟨_,_,rfl,c0,9,rfl,rfl,by omega,?_⟩⟩
 (try walk_at "rd")
 refine ⟨by decide,?_⟩
 refine qkz (fun σ' H'=>H=H'∧∃m:Nat,m≤7∧σ'=[some (.ref a),some (.int (m:Nat)),none,none,none,none,none,none,none,none]) ?_ fun N hN=>?_
 rotate_left
 · (try walk_at "rd")
   refine ⟨_,_,rfl,a,ns,0,rfl,hS,hlen,rfl,by omega,fun c1=>⟨_,_,rfl,c1,10,rfl,rfl,by omega,?_⟩⟩
   (try walk_at "rd")
   refine ⟨by decide,qoF (fun h1=>?_) fun h1=>hN _ _ ⟨rfl,qa7 c0 9%6,by omega,rfl⟩⟩
   refine ⟨_,_,rfl,a,ns,0,rfl,hS,hlen,rfl,by omega,fun c2=>⟨_,_,rfl,c2,9,rfl,rfl,by omega,?_⟩⟩
   (try walk_at "rd")
   exact ⟨by decide,hN _ _ ⟨rfl,6+qa7 c2 9%2,by omega,rfl⟩⟩
 rintro σ' H' ⟨rfl,m,hm,rfl⟩
 (try walk_at "rd")
 refine ⟨_,_,rfl,a,ns,1,rfl,hS,hlen,rfl,by omega,fun c1=>⟨_,_,rfl,c1,m,rfl,rfl,hm,fun p ws H1 hp s1 f1 hw hl=>?_⟩⟩
 have hS:=s1.seq hS
 subst hl
 refine ⟨rfl,_,p,ws,rfl,rfl,SqL.of f1,qbn (M:=8) (N:=8) (fun y hy=>(hw.wd y hy).2.1) hw.few (by rw [Tx.lit_space];decide) (by decide),fun d dx hd hdx hne=>⟨_,_,rfl,d,dx,ws,rfl,qak,rfl,hw,fun pk H2 hpk D2 s2=>⟨rfl,?_⟩⟩⟩
 have t2:Same H1 H2:=fun b o e=>s2 b o (by rw [qax (qa8 e hd),qax (qa8 e hdx)];exact e) (qa8 e hd)
 have f1:=t2 _ _ f1
 have hS:=t2.seq hS
 have ss:=s1.trans t2
 have np1:H pk=none:=by
   rw [qax (fun e=>by rw [e,qak] at hpk;cases hpk)] at hpk
   rw [qax (fun e=>by rw [e,qak] at hpk;cases hpk)] at hpk
   exact qaB s1 hpk
 clear s1 s2 t2
 refine ⟨_,_,_,_,rfl,a,ns,2,ws.length,8,rfl,hS,hlen,rfl,by omega,rfl,by omega,rfl,by omega,fun pA A H3 hp3 s3 fA hr3 hb3 h703=>?_⟩
 have hA:Fml ws.length A:=⟨hr3,hb3,h703⟩
 have f1:=s3 _ _ f1
 have hS:=s3.seq hS
 have D3:=D2.same s3
 have ss:=ss.trans s3
 refine ⟨_,_,_,_,rfl,a,ns,14,ws.length,8,rfl,hS,hlen,rfl,by omega,rfl,by omega,rfl,by omega,fun pB B H4 hp4 s4 fB hr4 hb4 h704=>?_⟩
 have hB:Fml ws.length B:=⟨hr4,hb4,h704⟩
 have f1:=s4 _ _ f1
 have fA:=s4 _ _ fA
 have D4:=D3.same s4
 have ss:=ss.trans s4
 (try walk_at "rd")
 have h8:=hw.few
 have fAl:=Tx.fT_len hw hA.lt (by have:=hA.few;omega)
 have fBl:=Tx.fT_len hw hB.lt (by have:=hB.few;omega)
 have zz:100000≤sizeLine:=by decide
 have l6a:(Str.ofString "let a ").length=6:=by decide +kernel
 have l6b:(Str.ofString "let b ").length=6:=by decide +kernel
 refine ⟨_,_,rfl,p,pA,ws,A,rfl,f1,hw,rfl,fA,hA.lt,hA.few,fun H5 s5=>⟨_,rfl,by omega,_,_,rfl,p,pB,ws,B,rfl,s5 _ _ f1,hw,rfl,s5 _ _ fB,hB.lt,hB.few,fun H6 s6=>⟨_,rfl,by omega,qaH (by simp),fun p7 hp7=>⟨qaH (by simp),fun p8 hp8=>?_⟩⟩⟩⟩
 generalize g7:upd H6 p7 _=G7 at hp8 ⊢
 have a7:=qaw g7
 have s7:=qaq g7 hp7
 generalize g8:upd G7 p8 _=G8
 have a8:=qaw g8
 have s8:=qaq g8 hp8
 refine ⟨p7,p8,_,_,rfl,rfl,SqL.of (s8 _ _ a7),SqL.of a8,qaH (by simp),fun p9 hp9=>?_⟩
 generalize g9:upd G8 p9 _=G9
 have a9:=qaw g9
 have s9:=((((s5.trans s6).trans s7).trans s8).trans (qaq g9 hp9))
 clear g7 g8 g9 a7 a8 s7 s8 s5 s6
 have f1:=s9 _ _ f1
 have D9:=D4.same s9
 have ss:SmB pk H G9:=(ss.trans s9).smb
 have np0:H pk=none:=np1
 clear s9 D4 D3 D2
 have hH:=qdU h8 A
 have hR:=qjr hA
 have b0:=Bud.nil N16
 have b1:=b0.put qbu (n := "a") (by decide +kernel) A
 have b2:=b1.put qbu (n := "b") (by decide +kernel) B
 have b3:=b2.put qbu (n := "s") (by decide +kernel) (qeg A A)
 have b4:=b3.put qbu (n := "h") (by decide +kernel) (Fam.hits ws.length A)
 have b5:=b4.put qbu (n := "g") (by decide +kernel) (Fam.hits ws.length (Fam.hits ws.length A))
 have b6:=b5.put qbu (n := "k") (by decide +kernel) (Fam.hits ws.length B)
 have b7:=b6.put qbu (n := "r") (by decide +kernel) (Fam.rsts ws.length A)
 have b8:=b7.put qbu (n := "q") (by decide +kernel) (Fam.rsts ws.length (Fam.rsts ws.length A))
 have R:qdT MkR ws [Str.ofString "let a " ++ Tx.fT ws A,Str.ofString "let b " ++ Tx.fT ws B,Str.ofString "either s a a",Str.ofString "hits h a",Str.ofString "hits g h",Str.ofString "hits k b",Str.ofString "rests r a",Str.ofString "rests q r"] [] (qaI (qaI (qaI (qaI (qaI (qaI (qaI (qaI [] "a" A) "b" B) "s" (qeg A A)) "h" (Fam.hits ws.length A)) "g" (Fam.hits ws.length (Fam.hits ws.length A))) "k" (Fam.hits ws.length B)) "r" (Fam.rsts ws.length A)) "q" (Fam.rsts ws.length (Fam.rsts ws.length A))) :=
   ⟨_,ql8 (qlN (z:=Str.ofString "let a ") hw hA (by decide +kernel) (by decide +kernel) (by decide +kernel)) ⟨by decide +kernel,by decide +kernel,by decide +kernel⟩ hA (b0.room (by decide) _),
    _,ql8 (qlN (z:=Str.ofString "let b ") hw hB (by decide +kernel) (by decide +kernel) (by decide +kernel)) ⟨by decide +kernel,by decide +kernel,by decide +kernel⟩ hB (b1.room (by decide) _),
    _,qef h8 (show Prt (Str.ofString "either s a a") "either" ["s", "a", "a"] ["new", "family", "family"] from ⟨by decide +kernel,by decide +kernel,by decide +kernel,rfl,by decide +kernel⟩) ⟨by decide +kernel,by decide +kernel,by decide +kernel⟩ (by (repeat rw [qae,if_neg (by decide +kernel)]);rw [qae,if_pos rfl]) hA (by (repeat rw [qae,if_neg (by decide +kernel)]);rw [qae,if_pos rfl]) hA (b2.room (by decide) _),
    _,qcq h8 (show Prt (Str.ofString "hits h a") "hits" ["h", "a"] ["new", "family"] from ⟨by decide +kernel,by decide +kernel,by decide +kernel,rfl,by decide +kernel⟩) ⟨by decide +kernel,by decide +kernel,by decide +kernel⟩ (by (repeat rw [qae,if_neg (by decide +kernel)]);rw [qae,if_pos rfl]) hA (b3.room (by decide) _),
    _,qcq h8 (show Prt (Str.ofString "hits g h") "hits" ["g", "h"] ["new", "family"] from ⟨by decide +kernel,by decide +kernel,by decide +kernel,rfl,by decide +kernel⟩) ⟨by decide +kernel,by decide +kernel,by decide +kernel⟩ (by (repeat rw [qae,if_neg (by decide +kernel)]);rw [qae,if_pos rfl]) hH (b4.room (by decide) _),
    _,qcq h8 (show Prt (Str.ofString "hits k b") "hits" ["k", "b"] ["new", "family"] from ⟨by decide +kernel,by decide +kernel,by decide +kernel,rfl,by decide +kernel⟩) ⟨by decide +kernel,by decide +kernel,by decide +kernel⟩ (by (repeat rw [qae,if_neg (by decide +kernel)]);rw [qae,if_pos rfl]) hB (b5.room (by decide) _),
    _,qhO (show Prt (Str.ofString "rests r a") "rests" ["r", "a"] ["new", "family"] from ⟨by decide +kernel,by decide +kernel,by decide +kernel,rfl,by decide +kernel⟩) ⟨by decide +kernel,by decide +kernel,by decide +kernel⟩ (by (repeat rw [qae,if_neg (by decide +kernel)]);rw [qae,if_pos rfl]) hA hR (b6.room (by decide) _),
    _,qhO (show Prt (Str.ofString "rests q r") "rests" ["q", "r"] ["new", "family"] from ⟨by decide +kernel,by decide +kernel,by decide +kernel,rfl,by decide +kernel⟩) ⟨by decide +kernel,by decide +kernel,by decide +kernel⟩ (by (repeat rw [qae,if_neg (by decide +kernel)]);rw [qae,if_pos rfl]) hR (qjr hR) (b7.room (by decide) _),rfl⟩
 have l_a:List.lookup ("a" : Str) (qaI (qaI (qaI (qaI (qaI (qaI (qaI (qaI [] "a" A) "b" B) "s" (qeg A A)) "h" (Fam.hits ws.length A)) "g" (Fam.hits ws.length (Fam.hits ws.length A))) "k" (Fam.hits ws.length B)) "r" (Fam.rsts ws.length A)) "q" (Fam.rsts ws.length (Fam.rsts ws.length A)))=some A:=(by (repeat rw [qae,if_neg (by decide +kernel)]);rw [qae,if_pos rfl])
 have l_b:List.lookup ("b" : Str) (qaI (qaI (qaI (qaI (qaI (qaI (qaI (qaI [] "a" A) "b" B) "s" (qeg A A)) "h" (Fam.hits ws.length A)) "g" (Fam.hits ws.length (Fam.hits ws.length A))) "k" (Fam.hits ws.length B)) "r" (Fam.rsts ws.length A)) "q" (Fam.rsts ws.length (Fam.rsts ws.length A)))=some B:=(by (repeat rw [qae,if_neg (by decide +kernel)]);rw [qae,if_pos rfl])
 have l_s:List.lookup ("s" : Str) (qaI (qaI (qaI (qaI (qaI (qaI (qaI (qaI [] "a" A) "b" B) "s" (qeg A A)) "h" (Fam.hits ws.length A)) "g" (Fam.hits ws.length (Fam.hits ws.length A))) "k" (Fam.hits ws.length B)) "r" (Fam.rsts ws.length A)) "q" (Fam.rsts ws.length (Fam.rsts ws.length A)))=some (qeg A A):=(by (repeat rw [qae,if_neg (by decide +kernel)]);rw [qae,if_pos rfl])
 have l_h:List.lookup ("h" : Str) (qaI (qaI (qaI (qaI (qaI (qaI (qaI (qaI [] "a" A) "b" B) "s" (qeg A A)) "h" (Fam.hits ws.length A)) "g" (Fam.hits ws.length (Fam.hits ws.length A))) "k" (Fam.hits ws.length B)) "r" (Fam.rsts ws.length A)) "q" (Fam.rsts ws.length (Fam.rsts ws.length A)))=some (Fam.hits ws.length A):=(by (repeat rw [qae,if_neg (by decide +kernel)]);rw [qae,if_pos rfl])
 have l_g:List.lookup ("g" : Str) (qaI (qaI (qaI (qaI (qaI (qaI (qaI (qaI [] "a" A) "b" B) "s" (qeg A A)) "h" (Fam.hits ws.length A)) "g" (Fam.hits ws.length (Fam.hits ws.length A))) "k" (Fam.hits ws.length B)) "r" (Fam.rsts ws.length A)) "q" (Fam.rsts ws.length (Fam.rsts ws.length A)))=some (Fam.hits ws.length (Fam.hits ws.length A)):=(by (repeat rw [qae,if_neg (by decide +kernel)]);rw [qae,if_pos rfl])
 have l_k:List.lookup ("k" : Str) (qaI (qaI (qaI (qaI (qaI (qaI (qaI (qaI [] "a" A) "b" B) "s" (qeg A A)) "h" (Fam.hits ws.length A)) "g" (Fam.hits ws.length (Fam.hits ws.length A))) "k" (Fam.hits ws.length B)) "r" (Fam.rsts ws.length A)) "q" (Fam.rsts ws.length (Fam.rsts ws.length A)))=some (Fam.hits ws.length B):=(by (repeat rw [qae,if_neg (by decide +kernel)]);rw [qae,if_pos rfl])
 have l_r:List.lookup ("r" : Str) (qaI (qaI (qaI (qaI (qaI (qaI (qaI (qaI [] "a" A) "b" B) "s" (qeg A A)) "h" (Fam.hits ws.length A)) "g" (Fam.hits ws.length (Fam.hits ws.length A))) "k" (Fam.hits ws.length B)) "r" (Fam.rsts ws.length A)) "q" (Fam.rsts ws.length (Fam.rsts ws.length A)))=some (Fam.rsts ws.length A):=(by (repeat rw [qae,if_neg (by decide +kernel)]);rw [qae,if_pos rfl])
 have l_q:List.lookup ("q" : Str) (qaI (qaI (qaI (qaI (qaI (qaI (qaI (qaI [] "a" A) "b" B) "s" (qeg A A)) "h" (Fam.hits ws.length A)) "g" (Fam.hits ws.length (Fam.hits ws.length A))) "k" (Fam.hits ws.length B)) "r" (Fam.rsts ws.length A)) "q" (Fam.rsts ws.length (Fam.rsts ws.length A)))=some (Fam.rsts ws.length (Fam.rsts ws.length A)):=(by (repeat rw [qae,if_neg (by decide +kernel)]);rw [qae,if_pos rfl])
 refine ⟨_,_,rfl,d,pk,p9,ws,[],_,[Str.ofString "let a " ++ Tx.fT ws A,Str.ofString "let b " ++ Tx.fT ws B,Str.ofString "either s a a",Str.ofString "hits h a",Str.ofString "hits g h",Str.ofString "hits k b",Str.ofString "rests r a",Str.ofString "rests q r"],rfl,D9,rfl,a9,by simp,R,fun H10 s10 D10=>⟨true,rfl,?_⟩⟩
 rw [if_neg (by decide)]
 obtain ⟨kv9,c9,_⟩:=D9.dc
 have npk:p≠pk:=fun e=>by rw [e,c9] at f1;cases f1
 have f1:=s10 _ _ f1 npk
 have ss:=SmB.trans ss s10
 clear R a9 D9 s10 c9 b0 b1 b2 b3 b4 b5 b6 b7
 have l_g:=l_g.trans (congrArg some (qpi hA))
 have l_q:=l_q.trans (congrArg some (rsL_Fam.rsts hA.lt))
 generalize (qaI (qaI (qaI (qaI (qaI (qaI (qaI (qaI [] "a" A) "b" B) "s" (qeg A A)) "h" (Fam.hits ws.length A)) "g" (Fam.hits ws.length (Fam.hits ws.length A))) "k" (Fam.hits ws.length B)) "r" (Fam.rsts ws.length A)) "q" (Fam.rsts ws.length (Fam.rsts ws.length A)))=M at D10 b8 l_a l_b l_s l_h l_g l_k l_r l_q
 refine ⟨_,_,_,rfl,d,pk,ws,M, "g", "s",(qeg A A),rfl,D10,rfl,⟨by decide +kernel,by decide +kernel,by decide +kernel⟩,l_g,rfl,⟨by decide +kernel,by decide +kernel,by decide +kernel⟩,l_s,fun H11 s11=>⟨true,rfl,?_⟩⟩
 rw [if_neg (by decide)]
 refine ⟨_,_,_,rfl,d,pk,ws,M, "a", "q",A,rfl,(D10.same s11),rfl,⟨by decide +kernel,by decide +kernel,by decide +kernel⟩,l_a,rfl,⟨by decide +kernel,by decide +kernel,by decide +kernel⟩,l_q,fun H12 s12=>⟨true,rfl,?_⟩⟩
 rw [if_neg (by decide)]
 have D12:=(D10.same s11).same s12
 have ss:=SmB.same (SmB.same ss s11) s12
 have f1:=s12 _ _ (s11 _ _ f1)
 clear D10 s11 s12
 refine ⟨_,rfl,d,pk,ws,M,A,B,rfl,D12,b8,l_a,l_b,l_h,l_k,fun H13 M3 s13 D13 b13 hM=>⟨true,rfl,?_⟩⟩
 rw [if_neg (by decide)]
 have l_a:M3.lookup ("a" : Str)=some A:=by rw [hM _ (by decide +kernel)];exact l_a
 have l_h:M3.lookup ("h" : Str)=some (Fam.hits ws.length A):=by rw [hM _ (by decide +kernel)];exact l_h
 have f1:=s13 _ _ f1 npk
 have ss:=SmB.trans ss s13
 clear l_b l_s l_g l_k l_r l_q hM b8 D12 s13
 have eE:=qll hA
 obtain ⟨dx_s14,pw_s14,o_s14,_⟩:=D13.ob
 refine ⟨dx_s14,_,o_s14,qbT _ _ (by decide +kernel) (by decide +kernel),_,_,rfl,d,pk,ws,_,_, "held",["a", "h"],["family", "family"],[.fm A,.fm (Fam.hits ws.length A)],rfl,D13,rfl,(show Prt (Str.ofString "held a h") "held" ["a", "h"] ["family", "family"] from ⟨by decide +kernel,by decide +kernel,by decide +kernel,rfl,by decide +kernel⟩),qhr.cons (.fam l_a) (qdi (.fam l_h)),.inr ⟨"family",_,rfl,by decide +kernel,.each hA hH (qjy eE),fun H14 s14=>⟨_,.inl ⟨rfl,rfl⟩,false,congrArg V.bl (by rw [qh8];decide +kernel),qeO ?_⟩⟩⟩
 have D14:=D13.same s14
 obtain ⟨dx_s15,pw_s15,o_s15,_⟩:=D14.ob
 refine ⟨dx_s15,_,o_s15,qbT _ _ (by decide +kernel) (by decide +kernel),_,_,rfl,d,pk,ws,_,_, "held",["h", "a"],["family", "family"],[.fm (Fam.hits ws.length A),.fm A],rfl,D14,rfl,(show Prt (Str.ofString "held h a") "held" ["h", "a"] ["family", "family"] from ⟨by decide +kernel,by decide +kernel,by decide +kernel,rfl,by decide +kernel⟩),qhr.cons (.fam l_h) (qdi (.fam l_a)),.inr ⟨"family",_,rfl,by decide +kernel,.each hH hA (qjy (Fam.each_turn eE)),fun H15 s15=>⟨_,.inl ⟨rfl,rfl⟩,false,congrArg V.bl (by rw [qh8];decide +kernel),qeO ?_⟩⟩⟩
 have D15:=D14.same s15
 have ss:=SmB.same (SmB.same ss s14) s15
 have f1:=s15 _ _ (s14 _ _ f1)
 clear D13 D14 s14 s15
 refine ⟨⟨_,SqL.of f1⟩,qhV (xs:=sV ws) (fun i σ H'=>∃(v7:Option V) (mi:List (Str×List Nat)),σ=[some (.ref a),some (.int (ws.length:Nat)),some (.ref p),some (.ref d),some (.ref pA),some (.ref pB),some (.ref p9),v7,none,none]∧SmB pk H H'∧qcA cD H' d pk ws mi∧Bud N16 mi∧mi.lookup ("a" : Str)=some A∧mi.lookup ("h" : Str)=some (Fam.hits ws.length A)∧H' p=some (.lst (sV ws))) ⟨none,M3,rfl,ss,D15,b13,l_a,l_h,f1⟩ (fun i σ H' _ ⟨_,_,_,_,_,_,_,_,e⟩=>SqL.of e) ?_ ?_⟩
 · clear ss D15 b13 l_a l_h f1
   rintro i x σ H4 hx ⟨v7,mi,rfl,ss,D4,b4,l_a,l_h,f1⟩ N hN
   rw [List.getElem?_map] at hx
   cases eb:ws[i]? with
   | none=>rw [eb] at hx;cases hx
   | some z =>
     rw [eb] at hx
     cases hx
     (try walk_at "rd")
     refine ⟨_,_,rfl,d,pk,ws,mi,A,z,rfl,D4,b4,l_a,l_h,rfl,List.mem_of_getElem? eb,fun H5 m5 s5 D5 b5 hM=>⟨true,rfl,?_⟩⟩
     rw [if_neg (by decide)]
     exact hN _ _ ⟨_,m5,rfl,SmB.trans ss s5,D5,b5,by rw [hM _ (by decide +kernel)];exact l_a,by rw [hM _ (by decide +kernel)];exact l_h,s5 _ _ f1 npk⟩
 clear ss D15 b13 l_a l_h f1
 rintro σ H16 ⟨v7,mi,rfl,ss,D16,b16,l_a,l_h,f1⟩
 (try walk_at "rd")
 obtain ⟨dx_s17,pw_s17,o_s17,_⟩:=D16.ob
 refine ⟨dx_s17,_,o_s17,qbT _ _ (by decide +kernel) (by decide +kernel),_,_,rfl,d,pk,ws,_,_, "turns",["a"],["family"],[.fm A],rfl,D16,rfl,(show Prt (Str.ofString "turns a") "turns" ["a"] ["family"] from ⟨by decide +kernel,by decide +kernel,by decide +kernel,rfl,by decide +kernel⟩),qdi (.fam l_a),.inr ⟨"family",_,rfl,by decide +kernel,.turns hA,fun H17 s17=>?_⟩⟩
 have D17:=D16.same s17
 obtain ⟨dx_s18,pw_s18,o_s18,_⟩:=D17.ob
 refine ⟨dx_s18,_,o_s18,qbT _ _ (by decide +kernel) (by decide +kernel),_,_,rfl,d,pk,ws,_,_, "turns",["h"],["family"],[.fm (Fam.hits ws.length A)],rfl,D17,rfl,(show Prt (Str.ofString "turns h") "turns" ["h"] ["family"] from ⟨by decide +kernel,by decide +kernel,by decide +kernel,rfl,by decide +kernel⟩),qdi (.fam l_h),.inr ⟨"family",_,rfl,by decide +kernel,.turns hH,fun H18 s18=>⟨_,.inl ⟨rfl,rfl⟩,false,congrArg V.bl (by rw [qkl hA,decide_eq_true rfl];rfl),qeO ?_⟩⟩⟩
 have D18:=D17.same s18
 have ss:=SmB.same (SmB.same ss s17) s18
 clear D16 D17 s17 s18 f1
 (try walk_at "rd")
 obtain ⟨dx_s19,pw_s19,o_s19,_⟩:=D18.ob
 refine ⟨dx_s19,_,o_s19,qbT _ _ (by decide +kernel) (by decide +kernel),_,_,rfl,d,pk,ws,_,_, "show",["h"],["family"],[.fm (Fam.hits ws.length A)],rfl,D18,rfl,(show Prt (Str.ofString "show h") "show" ["h"] ["family"] from ⟨by decide +kernel,by decide +kernel,by decide +kernel,rfl,by decide +kernel⟩),qdi (.fam l_h),.inr ⟨"family",_,rfl,by decide +kernel,.show hH,fun H19 s19=>?_⟩⟩
 have D19:=D18.same s19
 have ss:=SmB.same ss s19
 clear D18 s19
 have hlt:=Tx.fT_len hw hH.lt (by have:=hH.few;omega)
 refine ⟨rfl,_,_,rfl,rfl,by rw [Tx.lit_space];rfl,by omega,fun p20 hp20=>⟨p20,rfl,⟨_,SqL.of qak⟩,?_⟩⟩
 generalize g20:upd H19 p20 _=G20
 have a20:=qaw g20
 have s20:=qaq g20 hp20
 have e20:_root_.PySem.Txt.split (Tx.fT ws (Fam.hits ws.length A)) (Str.ofString " ")=_:=Tx.split_fT hw hH.lt
 generalize _root_.PySem.Txt.split (Tx.fT ws (Fam.hits ws.length A)) (Str.ofString " ")=L at a20 e20
 have D20:=D19.same s20
 have ss:=SmB.same ss s20
 clear g20 D19 s20
 refine qhV (xs:=sV L) (fun i σ H'=>∃v9:Option V,σ=[some (.ref a),some (.int (ws.length:Nat)),some (.ref p),some (.ref d),some (.ref pA),some (.ref pB),some (.ref p9),v7,some (.str (Tx.fT ws (Fam.hits ws.length A))),v9]∧Same G20 H') ⟨none,rfl,Same.refl _⟩ (fun i σ H' _ ⟨_,_,e⟩=>SqL.of (e _ _ a20)) ?_ ?_
 · rintro i x σ H21 hx ⟨v9,rfl,s21⟩ N hN
   rw [List.getElem?_map] at hx
   cases eb:L[i]? with
   | none=>rw [eb] at hx;cases hx
   | some z =>
     rw [eb] at hx
     cases hx
     have zm:=List.mem_of_getElem? eb
     (try walk_at "rd")
     by_cases hz:Tx.fT ws (Fam.hits ws.length A)=Str.ofString "none"
     · exact ⟨false,by rw [decide_eq_true hz];rfl,qeO (hN _ _ ⟨_,rfl,s21⟩)⟩
     have hn:¬Fam.hits ws.length A=[]:=fun e=>hz (if_pos e)
     rw [if_neg hn] at e20
     subst e20
     obtain ⟨b,hb,rfl⟩:=List.mem_map.mp zm
     have blt:=hH.lt b hb
     have D21:=D20.same s21
     have hlk:=qkd hb
     have l7:(Str.ofString "look a ").length=7:=by decide +kernel
     have lsT:=Tx.sT_len hw blt
     obtain ⟨dx21,pw21,o21,_⟩:=D21.ob
     refine ⟨true,by rw [decide_eq_false hz];rfl,qiH ?_⟩
     refine ⟨dx21,_,o21,qbT _ _ (by decide +kernel) (by decide +kernel),by omega,_,_,rfl,d,pk,ws,mi,_, "look",["a",Tx.sT ws b],["family", "set"],[.fm A,.nu b],rfl,D21,rfl,qmP hw blt,qhr.cons (.fam l_a) (qdi (.set blt)),.inr ⟨"family",_,rfl,by decide +kernel,.least hA blt hlk.1 hlk.2,fun H22 s22=>?_⟩⟩
     obtain ⟨rr,er⟩:=qi4 ((Fam.nms 8 b).map (lkT ws A b))
     refine ⟨rfl,_,_,rfl,rfl,by rw [Tx.lit_space];rfl,qlE hw hA.lt blt,fun l hl=>?_⟩
     rw [show _root_.PySem.Txt.split (_root_.PySem.Txt.join " " (("least" : Str)::(Fam.nms 8 b).map (lkT ws A b))) (Str.ofString " ")=_ from er]
     exact qbl (SqL.of qak) (qhG (i:=0) rfl) ⟨_,.inl ⟨rfl,rfl⟩,false,congrArg V.bl (by rw [decide_eq_true rfl];rfl),qeO (hN _ _ ⟨_,rfl,(s21.trans s22).trans (Same.new hl)⟩)⟩
 rintro σ H21 ⟨v9,rfl,s21⟩
 (try walk_at "rd")
 exact q _
end
theorem all_mk {l:W.OpenLaw} {w:World} {K:W.Frag} {h:Heap} {mg:Str→Option Value} {fa:Addr} (X:K.In h) (G:h.Ns mainGlobals mg) (hfa:mg "law" = some (.ref fa))
   {cD aW:Addr}
   {f_31:Addr} {od_31 an_31:Option Addr} {sl_31:Array (Option Value)} {oc_31 kV_31 dc_31 pm_31 cd_31 ct_31:Value}
   {f_24:Addr} {od_24 an_24:Option Addr} {sl_24:Array (Option Value)} {oc_24 kV_24 dc_24 pm_24 cd_24 ct_24:Value}
   {f_32:Addr} {od_32 an_32:Option Addr} {sl_32:Array (Option Value)} {oc_32 kV_32 dc_32 pm_32 cd_32 ct_32:Value}
   {f_25:Addr} {od_25 an_25:Option Addr} {sl_25:Array (Option Value)} {oc_25 kV_25 dc_25 pm_25 cd_25 ct_25:Value}
   {f_12:Addr} {od_12 an_12:Option Addr} {sl_12:Array (Option Value)} {oc_12 kV_12 dc_12 pm_12 cd_12 ct_12:Value}
   {f_17:Addr} {od_17 an_17:Option Addr} {sl_17:Array (Option Value)} {oc_17 kV_17 dc_17 pm_17 cd_17 ct_17:Value}
   {f_06:Addr} {od_06 an_06:Option Addr} {sl_06:Array (Option Value)} {oc_06 kV_06 dc_06 pm_06 cd_06 ct_06:Value}
   {f_26:Addr} {od_26 an_26:Option Addr} {sl_26:Array (Option Value)} {oc_26 kV_26 dc_26 pm_26 cd_26 ct_26:Value}
   {f_43:Addr} {od_43 an_43:Option Addr} {sl_43:Array (Option Value)} {oc_43 kV_43 dc_43 pm_43 cd_43 ct_43:Value}
   {f_27:Addr} {od_27 an_27:Option Addr} {sl_27:Array (Option Value)} {oc_27 kV_27 dc_27 pm_27 cd_27 ct_27:Value}
   {f_33:Addr} {od_33 an_33:Option Addr} {sl_33:Array (Option Value)} {oc_33 kV_33 dc_33 pm_33 cd_33 ct_33:Value}
   {f_44:Addr} {od_44 an_44:Option Addr} {sl_44:Array (Option Value)} {oc_44 kV_44 dc_44 pm_44 cd_44 ct_44:Value}
   {f_45:Addr} {od_45 an_45:Option Addr} {sl_45:Array (Option Value)} {oc_45 kV_45 dc_45 pm_45 cd_45 ct_45:Value}
   {f_42:Addr} {od_42 an_42:Option Addr} {sl_42:Array (Option Value)} {oc_42 kV_42 dc_42 pm_42 cd_42 ct_42:Value}
   {f_18:Addr} {od_18 an_18:Option Addr} {sl_18:Array (Option Value)} {oc_18 kV_18 dc_18 pm_18 cd_18 ct_18:Value}
   {f_28:Addr} {od_28 an_28:Option Addr} {sl_28:Array (Option Value)} {oc_28 kV_28 dc_28 pm_28 cd_28 ct_28:Value}
   {f_34:Addr} {od_34 an_34:Option Addr} {sl_34:Array (Option Value)} {oc_34 kV_34 dc_34 pm_34 cd_34 ct_34:Value}
   {f_13:Addr} {od_13 an_13:Option Addr} {sl_13:Array (Option Value)} {oc_13 kV_13 dc_13 pm_13 cd_13 ct_13:Value}
   {f_35:Addr} {od_35 an_35:Option Addr} {sl_35:Array (Option Value)} {oc_35 kV_35 dc_35 pm_35 cd_35 ct_35:Value}
   {f_14:Addr} {od_14 an_14:Option Addr} {sl_14:Array (Option Value)} {oc_14 kV_14 dc_14 pm_14 cd_14 ct_14:Value}
   {f_48:Addr} {od_48 an_48:Option Addr} {sl_48:Array (Option Value)} {oc_48 kV_48 dc_48 pm_48 cd_48 ct_48:Value}
   {f_49:Addr} {od_49 an_49:Option Addr} {sl_49:Array (Option Value)} {oc_49 kV_49 dc_49 pm_49 cd_49 ct_49:Value}
   {f_54:Addr} {od_54 an_54:Option Addr} {sl_54:Array (Option Value)} {oc_54 kV_54 dc_54 pm_54 cd_54 ct_54:Value}
   {f_55:Addr} {od_55 an_55:Option Addr} {sl_55:Array (Option Value)} {oc_55 kV_55 dc_55 pm_55 cd_55 ct_55:Value}
   {f_50:Addr} {od_50 an_50:Option Addr} {sl_50:Array (Option Value)} {oc_50 kV_50 dc_50 pm_50 cd_50 ct_50:Value}
   {f_51:Addr} {od_51 an_51:Option Addr} {sl_51:Array (Option Value)} {oc_51 kV_51 dc_51 pm_51 cd_51 ct_51:Value}
   {f_09:Addr} {od_09 an_09:Option Addr} {sl_09:Array (Option Value)} {oc_09 kV_09 dc_09 pm_09 cd_09 ct_09:Value}
   {f_56:Addr} {od_56 an_56:Option Addr} {sl_56:Array (Option Value)} {oc_56 kV_56 dc_56 pm_56 cd_56 ct_56:Value}
   {f_29:Addr} {od_29 an_29:Option Addr} {sl_29:Array (Option Value)} {oc_29 kV_29 dc_29 pm_29 cd_29 ct_29:Value}
   {f_19:Addr} {od_19 an_19:Option Addr} {sl_19:Array (Option Value)} {oc_19 kV_19 dc_19 pm_19 cd_19 ct_19:Value}
   {f_46:Addr} {od_46 an_46:Option Addr} {sl_46:Array (Option Value)} {oc_46 kV_46 dc_46 pm_46 cd_46 ct_46:Value}
   {f_57:Addr} {od_57 an_57:Option Addr} {sl_57:Array (Option Value)} {oc_57 kV_57 dc_57 pm_57 cd_57 ct_57:Value}
   {f_00:Addr} {od_00 an_00:Option Addr} {sl_00:Array (Option Value)} {oc_00 kV_00 dc_00 pm_00 cd_00 ct_00:Value}
   {f_47:Addr} {od_47 an_47:Option Addr} {sl_47:Array (Option Value)} {oc_47 kV_47 dc_47 pm_47 cd_47 ct_47:Value}
   {f_04:Addr} {od_04 an_04:Option Addr} {sl_04:Array (Option Value)} {oc_04 kV_04 dc_04 pm_04 cd_04 ct_04:Value}
   {f_58:Addr} {od_58 an_58:Option Addr} {sl_58:Array (Option Value)} {oc_58 kV_58 dc_58 pm_58 cd_58 ct_58:Value}
   {f_36:Addr} {od_36 an_36:Option Addr} {sl_36:Array (Option Value)} {oc_36 kV_36 dc_36 pm_36 cd_36 ct_36:Value}
   {f_30:Addr} {od_30 an_30:Option Addr} {sl_30:Array (Option Value)} {oc_30 kV_30 dc_30 pm_30 cd_30 ct_30:Value}
   {f_52:Addr} {od_52 an_52:Option Addr} {sl_52:Array (Option Value)} {oc_52 kV_52 dc_52 pm_52 cd_52 ct_52:Value}
   {f_10:Addr} {od_10 an_10:Option Addr} {sl_10:Array (Option Value)} {oc_10 kV_10 dc_10 pm_10 cd_10 ct_10:Value}
   {f_01:Addr} {od_01 an_01:Option Addr} {sl_01:Array (Option Value)} {oc_01 kV_01 dc_01 pm_01 cd_01 ct_01:Value}
   {f_15:Addr} {od_15 an_15:Option Addr} {sl_15:Array (Option Value)} {oc_15 kV_15 dc_15 pm_15 cd_15 ct_15:Value}
   {f_53:Addr} {od_53 an_53:Option Addr} {sl_53:Array (Option Value)} {oc_53 kV_53 dc_53 pm_53 cd_53 ct_53:Value}
   {f_20:Addr} {od_20 an_20:Option Addr} {sl_20:Array (Option Value)} {oc_20 kV_20 dc_20 pm_20 cd_20 ct_20:Value}
   {f_21:Addr} {od_21 an_21:Option Addr} {sl_21:Array (Option Value)} {oc_21 kV_21 dc_21 pm_21 cd_21 ct_21:Value}
   {f_11:Addr} {od_11 an_11:Option Addr} {sl_11:Array (Option Value)} {oc_11 kV_11 dc_11 pm_11 cd_11 ct_11:Value}
   {f_03:Addr} {od_03 an_03:Option Addr} {sl_03:Array (Option Value)} {oc_03 kV_03 dc_03 pm_03 cd_03 ct_03:Value}
   {f_37:Addr} {od_37 an_37:Option Addr} {sl_37:Array (Option Value)} {oc_37 kV_37 dc_37 pm_37 cd_37 ct_37:Value}
   {f_38:Addr} {od_38 an_38:Option Addr} {sl_38:Array (Option Value)} {oc_38 kV_38 dc_38 pm_38 cd_38 ct_38:Value}
   {f_07:Addr} {od_07 an_07:Option Addr} {sl_07:Array (Option Value)} {oc_07 kV_07 dc_07 pm_07 cd_07 ct_07:Value}
   {f_05:Addr} {od_05 an_05:Option Addr} {sl_05:Array (Option Value)} {oc_05 kV_05 dc_05 pm_05 cd_05 ct_05:Value}
   {f_02:Addr} {od_02 an_02:Option Addr} {sl_02:Array (Option Value)} {oc_02 kV_02 dc_02 pm_02 cd_02 ct_02:Value}
   {f_08:Addr} {od_08 an_08:Option Addr} {sl_08:Array (Option Value)} {oc_08 kV_08 dc_08 pm_08 cd_08 ct_08:Value}
   {f_59:Addr} {od_59 an_59:Option Addr} {sl_59:Array (Option Value)} {oc_59 kV_59 dc_59 pm_59 cd_59 ct_59:Value}
   {f_39:Addr} {od_39 an_39:Option Addr} {sl_39:Array (Option Value)} {oc_39 kV_39 dc_39 pm_39 cd_39 ct_39:Value}
   {f_40:Addr} {od_40 an_40:Option Addr} {sl_40:Array (Option Value)} {oc_40 kV_40 dc_40 pm_40 cd_40 ct_40:Value}
   {f_41:Addr} {od_41 an_41:Option Addr} {sl_41:Array (Option Value)} {oc_41 kV_41 dc_41 pm_41 cd_41 ct_41:Value}
   {f_22:Addr} {od_22 an_22:Option Addr} {sl_22:Array (Option Value)} {oc_22 kV_22 dc_22 pm_22 cd_22 ct_22:Value}
   {f_16:Addr} {od_16 an_16:Option Addr} {sl_16:Array (Option Value)} {oc_16 kV_16 dc_16 pm_16 cd_16 ct_16:Value}
   {f_23:Addr} {od_23 an_23:Option Addr} {sl_23:Array (Option Value)} {oc_23 kV_23 dc_23 pm_23 cd_23 ct_23:Value}
   {f_law:Addr} {od_law an_law:Option Addr} {sl_law:Array (Option Value)} {oc_law kV_law dc_law pm_law cd_law ct_law:Value}
   (a_31:W.nsIn K mainGlobals "is_whole" = some (some (.ref f_31))) (l_31:K.lookup f_31=some ⟨oc_31,od_31,.func (W.fnOf "is_whole" "is_whole" (qan qb1) (qam qb1) (qac qb1) .none kV_31 dc_31 pm_31 an_31 cd_31 ct_31),sl_31⟩) (c_31:W.codeIn K cd_31 "is_whole" = true) (k_31:W.keepIn K (.ref f_31)=true)
   (a_24:W.nsIn K mainGlobals "_law_cell" = some (some (.ref f_24))) (l_24:K.lookup f_24=some ⟨oc_24,od_24,.func (W.fnOf "_law_cell" "_law_cell" (qan qbP) (qam qbP) (qac qbP) .none kV_24 dc_24 pm_24 an_24 cd_24 ct_24),sl_24⟩) (c_24:W.codeIn K cd_24 "_law_cell" = true) (k_24:W.keepIn K (.ref f_24)=true)
   (a_32:W.nsIn K mainGlobals "_law_mix" = some (some (.ref f_32))) (l_32:K.lookup f_32=some ⟨oc_32,od_32,.func (W.fnOf "_law_mix" "_law_mix" (qan qbZ) (qam qbZ) (qac qbZ) .none kV_32 dc_32 pm_32 an_32 cd_32 ct_32),sl_32⟩) (c_32:W.codeIn K cd_32 "_law_mix" = true) (k_32:W.keepIn K (.ref f_32)=true)
   (a_25:W.nsIn K mainGlobals "_law_size" = some (some (.ref f_25))) (l_25:K.lookup f_25=some ⟨oc_25,od_25,.func (W.fnOf "_law_size" "_law_size" (qan qbI) (qam qbI) (qac qbI) .none kV_25 dc_25 pm_25 an_25 cd_25 ct_25),sl_25⟩) (c_25:W.codeIn K cd_25 "_law_size" = true) (k_25:W.keepIn K (.ref f_25)=true)
   (a_12:W.nsIn K mainGlobals "_law_family" = some (some (.ref f_12))) (l_12:K.lookup f_12=some ⟨oc_12,od_12,.func (W.fnOf "_law_family" "_law_family" (qan qbf) (qam qbf) (qac qbf) .none kV_12 dc_12 pm_12 an_12 cd_12 ct_12),sl_12⟩) (c_12:W.codeIn K cd_12 "_law_family" = true) (k_12:W.keepIn K (.ref f_12)=true)
   (a_17:W.nsIn K mainGlobals "_law_words" = some (some (.ref f_17))) (l_17:K.lookup f_17=some ⟨oc_17,od_17,.func (W.fnOf "_law_words" "_law_words" (qan qbC) (qam qbC) (qac qbC) .none kV_17 dc_17 pm_17 an_17 cd_17 ct_17),sl_17⟩) (c_17:W.codeIn K cd_17 "_law_words" = true) (k_17:W.keepIn K (.ref f_17)=true)
   (a_06:W.nsIn K mainGlobals "_law_set_text" = some (some (.ref f_06))) (l_06:K.lookup f_06=some ⟨oc_06,od_06,.func (W.fnOf "_law_set_text" "_law_set_text" (qan qaW) (qam qaW) (qac qaW) .none kV_06 dc_06 pm_06 an_06 cd_06 ct_06),sl_06⟩) (c_06:W.codeIn K cd_06 "_law_set_text" = true) (k_06:W.keepIn K (.ref f_06)=true)
   (a_26:W.nsIn K mainGlobals "_law_text" = some (some (.ref f_26))) (l_26:K.lookup f_26=some ⟨oc_26,od_26,.func (W.fnOf "_law_text" "_law_text" (qan qbH) (qam qbH) (qac qbH) .none kV_26 dc_26 pm_26 an_26 cd_26 ct_26),sl_26⟩) (c_26:W.codeIn K cd_26 "_law_text" = true) (k_26:W.keepIn K (.ref f_26)=true)
   (a_43:W.nsIn K mainGlobals "is_set" = some (some (.ref f_43))) (l_43:K.lookup f_43=some ⟨oc_43,od_43,.func (W.fnOf "is_set" "is_set" (qan qcT) (qam qcT) (qac qcT) .none kV_43 dc_43 pm_43 an_43 cd_43 ct_43),sl_43⟩) (c_43:W.codeIn K cd_43 "is_set" = true) (k_43:W.keepIn K (.ref f_43)=true)
   (a_27:W.nsIn K mainGlobals "is_family" = some (some (.ref f_27))) (l_27:K.lookup f_27=some ⟨oc_27,od_27,.func (W.fnOf "is_family" "is_family" (qan qbM) (qam qbM) (qac qbM) .none kV_27 dc_27 pm_27 an_27 cd_27 ct_27),sl_27⟩) (c_27:W.codeIn K cd_27 "is_family" = true) (k_27:W.keepIn K (.ref f_27)=true)
   (a_33:W.nsIn K mainGlobals "names_in" = some (some (.ref f_33))) (l_33:K.lookup f_33=some ⟨oc_33,od_33,.func (W.fnOf "names_in" "names_in" (qan qb5) (qam qb5) (qac qb5) .none kV_33 dc_33 pm_33 an_33 cd_33 ct_33),sl_33⟩) (c_33:W.codeIn K cd_33 "names_in" = true) (k_33:W.keepIn K (.ref f_33)=true)
   (a_44:W.nsIn K mainGlobals "set_of" = some (some (.ref f_44))) (l_44:K.lookup f_44=some ⟨oc_44,od_44,.func (W.fnOf "set_of" "set_of" (qan qcY) (qam qcY) (qac qcY) .none kV_44 dc_44 pm_44 an_44 cd_44 ct_44),sl_44⟩) (c_44:W.codeIn K cd_44 "set_of" = true) (k_44:W.keepIn K (.ref f_44)=true)
   (a_45:W.nsIn K mainGlobals "parted" = some (some (.ref f_45))) (l_45:K.lookup f_45=some ⟨oc_45,od_45,.func (W.fnOf "parted" "parted" (qan qc2) (qam qc2) (qac qc2) .none kV_45 dc_45 pm_45 an_45 cd_45 ct_45),sl_45⟩) (c_45:W.codeIn K cd_45 "parted" = true) (k_45:W.keepIn K (.ref f_45)=true)
   (a_42:W.nsIn K mainGlobals "is_word" = some (some (.ref f_42))) (l_42:K.lookup f_42=some ⟨oc_42,od_42,.func (W.fnOf "is_word" "is_word" (qan qcl) (qam qcl) (qac qcl) .none kV_42 dc_42 pm_42 an_42 cd_42 ct_42),sl_42⟩) (c_42:W.codeIn K cd_42 "is_word" = true) (k_42:W.keepIn K (.ref f_42)=true)
   (a_18:W.nsIn K mainGlobals "read_names" = some (some (.ref f_18))) (l_18:K.lookup f_18=some ⟨oc_18,od_18,.func (W.fnOf "read_names" "read_names" (qan qbA) (qam qbA) (qac qbA) .none kV_18 dc_18 pm_18 an_18 cd_18 ct_18),sl_18⟩) (c_18:W.codeIn K cd_18 "read_names" = true) (k_18:W.keepIn K (.ref f_18)=true)
   (a_28:W.nsIn K mainGlobals "read_name" = some (some (.ref f_28))) (l_28:K.lookup f_28=some ⟨oc_28,od_28,.func (W.fnOf "read_name" "read_name" (qan qbK) (qam qbK) (qac qbK) .none kV_28 dc_28 pm_28 an_28 cd_28 ct_28),sl_28⟩) (c_28:W.codeIn K cd_28 "read_name" = true) (k_28:W.keepIn K (.ref f_28)=true)
   (a_34:W.nsIn K mainGlobals "show_set" = some (some (.ref f_34))) (l_34:K.lookup f_34=some ⟨oc_34,od_34,.func (W.fnOf "show_set" "show_set" (qan qbX) (qam qbX) (qac qbX) .none kV_34 dc_34 pm_34 an_34 cd_34 ct_34),sl_34⟩) (c_34:W.codeIn K cd_34 "show_set" = true) (k_34:W.keepIn K (.ref f_34)=true)
   (a_13:W.nsIn K mainGlobals "show_family" = some (some (.ref f_13))) (l_13:K.lookup f_13=some ⟨oc_13,od_13,.func (W.fnOf "show_family" "show_family" (qan qbg) (qam qbg) (qac qbg) .none kV_13 dc_13 pm_13 an_13 cd_13 ct_13),sl_13⟩) (c_13:W.codeIn K cd_13 "show_family" = true) (k_13:W.keepIn K (.ref f_13)=true)
   (a_35:W.nsIn K mainGlobals "read_set" = some (some (.ref f_35))) (l_35:K.lookup f_35=some ⟨oc_35,od_35,.func (W.fnOf "read_set" "read_set" (qan qbY) (qam qbY) (qac qbY) .none kV_35 dc_35 pm_35 an_35 cd_35 ct_35),sl_35⟩) (c_35:W.codeIn K cd_35 "read_set" = true) (k_35:W.keepIn K (.ref f_35)=true)
   (a_14:W.nsIn K mainGlobals "read_family" = some (some (.ref f_14))) (l_14:K.lookup f_14=some ⟨oc_14,od_14,.func (W.fnOf "read_family" "read_family" (qan qbj) (qam qbj) (qac qbj) .none kV_14 dc_14 pm_14 an_14 cd_14 ct_14),sl_14⟩) (c_14:W.codeIn K cd_14 "read_family" = true) (k_14:W.keepIn K (.ref f_14)=true)
   (a_48:W.nsIn K mainGlobals "holds" = some (some (.ref f_48))) (l_48:K.lookup f_48=some ⟨oc_48,od_48,.func (W.fnOf "holds" "holds" (qan qd9) (qam qd9) (qac qd9) .none kV_48 dc_48 pm_48 an_48 cd_48 ct_48),sl_48⟩) (c_48:W.codeIn K cd_48 "holds" = true) (k_48:W.keepIn K (.ref f_48)=true)
   (a_49:W.nsIn K mainGlobals "meets" = some (some (.ref f_49))) (l_49:K.lookup f_49=some ⟨oc_49,od_49,.func (W.fnOf "meets" "meets" (qan qdY) (qam qdY) (qac qdY) .none kV_49 dc_49 pm_49 an_49 cd_49 ct_49),sl_49⟩) (c_49:W.codeIn K cd_49 "meets" = true) (k_49:W.keepIn K (.ref f_49)=true)
   (a_54:W.nsIn K mainGlobals "rest" = some (some (.ref f_54))) (l_54:K.lookup f_54=some ⟨oc_54,od_54,.func (W.fnOf "rest" "rest" (qan qgf) (qam qgf) (qac qgf) .none kV_54 dc_54 pm_54 an_54 cd_54 ct_54),sl_54⟩) (c_54:W.codeIn K cd_54 "rest" = true) (k_54:W.keepIn K (.ref f_54)=true)
   (a_55:W.nsIn K mainGlobals "says" = some (some (.ref f_55))) (l_55:K.lookup f_55=some ⟨oc_55,od_55,.func (W.fnOf "says" "says" (qan qf4) (qam qf4) (qac qf4) .none kV_55 dc_55 pm_55 an_55 cd_55 ct_55),sl_55⟩) (c_55:W.codeIn K cd_55 "says" = true) (k_55:W.keepIn K (.ref f_55)=true)
   (a_50:W.nsIn K mainGlobals "least" = some (some (.ref f_50))) (l_50:K.lookup f_50=some ⟨oc_50,od_50,.func (W.fnOf "least" "least" (qan qee) (qam qee) (qac qee) .none kV_50 dc_50 pm_50 an_50 cd_50 ct_50),sl_50⟩) (c_50:W.codeIn K cd_50 "least" = true) (k_50:W.keepIn K (.ref f_50)=true)
   (a_51:W.nsIn K mainGlobals "rests" = some (some (.ref f_51))) (l_51:K.lookup f_51=some ⟨oc_51,od_51,.func (W.fnOf "rests" "rests" (qan qed) (qam qed) (qac qed) .none kV_51 dc_51 pm_51 an_51 cd_51 ct_51),sl_51⟩) (c_51:W.codeIn K cd_51 "rests" = true) (k_51:W.keepIn K (.ref f_51)=true)
   (a_09:W.nsIn K mainGlobals "first_missed" = some (some (.ref f_09))) (l_09:K.lookup f_09=some ⟨oc_09,od_09,.func (W.fnOf "first_missed" "first_missed" (qan qa6) (qam qa6) (qac qa6) .none kV_09 dc_09 pm_09 an_09 cd_09 ct_09),sl_09⟩) (c_09:W.codeIn K cd_09 "first_missed" = true) (k_09:W.keepIn K (.ref f_09)=true)
   (a_56:W.nsIn K mainGlobals "hits" = some (some (.ref f_56))) (l_56:K.lookup f_56=some ⟨oc_56,od_56,.func (W.fnOf "hits" "hits" (qan qgl) (qam qgl) (qac qgl) .none kV_56 dc_56 pm_56 an_56 cd_56 ct_56),sl_56⟩) (c_56:W.codeIn K cd_56 "hits" = true) (k_56:W.keepIn K (.ref f_56)=true)
   (a_29:W.nsIn K mainGlobals "always_in" = some (some (.ref f_29))) (l_29:K.lookup f_29=some ⟨oc_29,od_29,.func (W.fnOf "always_in" "always_in" (qan qbL) (qam qbL) (qac qbL) .none kV_29 dc_29 pm_29 an_29 cd_29 ct_29),sl_29⟩) (c_29:W.codeIn K cd_29 "always_in" = true) (k_29:W.keepIn K (.ref f_29)=true)
   (a_19:W.nsIn K mainGlobals "always_out" = some (some (.ref f_19))) (l_19:K.lookup f_19=some ⟨oc_19,od_19,.func (W.fnOf "always_out" "always_out" (qan qbw) (qam qbw) (qac qbw) .none kV_19 dc_19 pm_19 an_19 cd_19 ct_19),sl_19⟩) (c_19:W.codeIn K cd_19 "always_out" = true) (k_19:W.keepIn K (.ref f_19)=true)
   (a_46:W.nsIn K mainGlobals "either" = some (some (.ref f_46))) (l_46:K.lookup f_46=some ⟨oc_46,od_46,.func (W.fnOf "either" "either" (qan qc1) (qam qc1) (qac qc1) .none kV_46 dc_46 pm_46 an_46 cd_46 ct_46),sl_46⟩) (c_46:W.codeIn K cd_46 "either" = true) (k_46:W.keepIn K (.ref f_46)=true)
   (a_57:W.nsIn K mainGlobals "both" = some (some (.ref f_57))) (l_57:K.lookup f_57=some ⟨oc_57,od_57,.func (W.fnOf "both" "both" (qan qf3) (qam qf3) (qac qf3) .none kV_57 dc_57 pm_57 an_57 cd_57 ct_57),sl_57⟩) (c_57:W.codeIn K cd_57 "both" = true) (k_57:W.keepIn K (.ref f_57)=true)
   (a_00:W.nsIn K mainGlobals "first_met_by_alone" = some (some (.ref f_00))) (l_00:K.lookup f_00=some ⟨oc_00,od_00,.func (W.fnOf "first_met_by_alone" "first_met_by_alone" (qan qaE) (qam qaE) (qac qaE) .none kV_00 dc_00 pm_00 an_00 cd_00 ct_00),sl_00⟩) (c_00:W.codeIn K cd_00 "first_met_by_alone" = true) (k_00:W.keepIn K (.ref f_00)=true)
   (a_47:W.nsIn K mainGlobals "looked" = some (some (.ref f_47))) (l_47:K.lookup f_47=some ⟨oc_47,od_47,.func (W.fnOf "looked" "looked" (qan qcW) (qam qcW) (qac qcW) .none kV_47 dc_47 pm_47 an_47 cd_47 ct_47),sl_47⟩) (c_47:W.codeIn K cd_47 "looked" = true) (k_47:W.keepIn K (.ref f_47)=true)
   (a_04:W.nsIn K mainGlobals "first_left_out" = some (some (.ref f_04))) (l_04:K.lookup f_04=some ⟨oc_04,od_04,.func (W.fnOf "first_left_out" "first_left_out" (qan qaR) (qam qaR) (qac qaR) .none kV_04 dc_04 pm_04 an_04 cd_04 ct_04),sl_04⟩) (c_04:W.codeIn K cd_04 "first_left_out" = true) (k_04:W.keepIn K (.ref f_04)=true)
   (a_58:W.nsIn K mainGlobals "held" = some (some (.ref f_58))) (l_58:K.lookup f_58=some ⟨oc_58,od_58,.func (W.fnOf "held" "held" (qan qgj) (qam qgj) (qac qgj) .none kV_58 dc_58 pm_58 an_58 cd_58 ct_58),sl_58⟩) (c_58:W.codeIn K cd_58 "held" = true) (k_58:W.keepIn K (.ref f_58)=true)
   (a_36:W.nsIn K mainGlobals "table_of" = some (some (.ref f_36))) (l_36:K.lookup f_36=some ⟨oc_36,od_36,.func (W.fnOf "table_of" "table_of" (qan qb0) (qam qb0) (qac qb0) .none kV_36 dc_36 pm_36 an_36 cd_36 ct_36),sl_36⟩) (c_36:W.codeIn K cd_36 "table_of" = true) (k_36:W.keepIn K (.ref f_36)=true)
   (a_30:W.nsIn K mainGlobals "turned_by" = some (some (.ref f_30))) (l_30:K.lookup f_30=some ⟨oc_30,od_30,.func (W.fnOf "turned_by" "turned_by" (qan qbJ) (qam qbJ) (qac qbJ) .none kV_30 dc_30 pm_30 an_30 cd_30 ct_30),sl_30⟩) (c_30:W.codeIn K cd_30 "turned_by" = true) (k_30:W.keepIn K (.ref f_30)=true)
   (a_52:W.nsIn K mainGlobals "turns" = some (some (.ref f_52))) (l_52:K.lookup f_52=some ⟨oc_52,od_52,.func (W.fnOf "turns" "turns" (qan qeb) (qam qeb) (qac qeb) .none kV_52 dc_52 pm_52 an_52 cd_52 ct_52),sl_52⟩) (c_52:W.codeIn K cd_52 "turns" = true) (k_52:W.keepIn K (.ref f_52)=true)
   (a_10:W.nsIn K mainGlobals "show_numbers" = some (some (.ref f_10))) (l_10:K.lookup f_10=some ⟨oc_10,od_10,.func (W.fnOf "show_numbers" "show_numbers" (qan qa5) (qam qa5) (qac qa5) .none kV_10 dc_10 pm_10 an_10 cd_10 ct_10),sl_10⟩) (c_10:W.codeIn K cd_10 "show_numbers" = true) (k_10:W.keepIn K (.ref f_10)=true)
   (a_01:W.nsIn K mainGlobals "show_word_and_sets" = some (some (.ref f_01))) (l_01:K.lookup f_01=some ⟨oc_01,od_01,.func (W.fnOf "show_word_and_sets" "show_word_and_sets" (qan qaG) (qam qaG) (qac qaG) .none kV_01 dc_01 pm_01 an_01 cd_01 ct_01),sl_01⟩) (c_01:W.codeIn K cd_01 "show_word_and_sets" = true) (k_01:W.keepIn K (.ref f_01)=true)
   (a_15:W.nsIn K mainGlobals "show_looked" = some (some (.ref f_15))) (l_15:K.lookup f_15=some ⟨oc_15,od_15,.func (W.fnOf "show_looked" "show_looked" (qan qbh) (qam qbh) (qac qbh) .none kV_15 dc_15 pm_15 an_15 cd_15 ct_15),sl_15⟩) (c_15:W.codeIn K cd_15 "show_looked" = true) (k_15:W.keepIn K (.ref f_15)=true)
   (a_53:W.nsIn K mainGlobals "ranks" = some (some (.ref f_53))) (l_53:K.lookup f_53=some ⟨oc_53,od_53,.func (W.fnOf "ranks" "ranks" (qan qd5) (qam qd5) (qac qd5) .none kV_53 dc_53 pm_53 an_53 cd_53 ct_53),sl_53⟩) (c_53:W.codeIn K cd_53 "ranks" = true) (k_53:W.keepIn K (.ref f_53)=true)
   (a_20:W.nsIn K mainGlobals "show_ranks" = some (some (.ref f_20))) (l_20:K.lookup f_20=some ⟨oc_20,od_20,.func (W.fnOf "show_ranks" "show_ranks" (qan qbv) (qam qbv) (qac qbv) .none kV_20 dc_20 pm_20 an_20 cd_20 ct_20),sl_20⟩) (c_20:W.codeIn K cd_20 "show_ranks" = true) (k_20:W.keepIn K (.ref f_20)=true)
   (a_21:W.nsIn K mainGlobals "by_weights" = some (some (.ref f_21))) (l_21:K.lookup f_21=some ⟨oc_21,od_21,.func (W.fnOf "by_weights" "by_weights" (qan qbB) (qam qbB) (qac qbB) .none kV_21 dc_21 pm_21 an_21 cd_21 ct_21),sl_21⟩) (c_21:W.codeIn K cd_21 "by_weights" = true) (k_21:W.keepIn K (.ref f_21)=true)
   (a_11:W.nsIn K mainGlobals "show_weights" = some (some (.ref f_11))) (l_11:K.lookup f_11=some ⟨oc_11,od_11,.func (W.fnOf "show_weights" "show_weights" (qan qa4) (qam qa4) (qac qa4) .none kV_11 dc_11 pm_11 an_11 cd_11 ct_11),sl_11⟩) (c_11:W.codeIn K cd_11 "show_weights" = true) (k_11:W.keepIn K (.ref f_11)=true)
   (a_03:W.nsIn K mainGlobals "compared_unlike" = some (some (.ref f_03))) (l_03:K.lookup f_03=some ⟨oc_03,od_03,.func (W.fnOf "compared_unlike" "compared_unlike" (qan qaN) (qam qaN) (qac qaN) .none kV_03 dc_03 pm_03 an_03 cd_03 ct_03),sl_03⟩) (c_03:W.codeIn K cd_03 "compared_unlike" = true) (k_03:W.keepIn K (.ref f_03)=true)
   (a_37:W.nsIn K mainGlobals "new_name" = some (some (.ref f_37))) (l_37:K.lookup f_37=some ⟨oc_37,od_37,.func (W.fnOf "new_name" "new_name" (qan qb7) (qam qb7) (qac qb7) .none kV_37 dc_37 pm_37 an_37 cd_37 ct_37),sl_37⟩) (c_37:W.codeIn K cd_37 "new_name" = true) (k_37:W.keepIn K (.ref f_37)=true)
   (a_38:W.nsIn K mainGlobals "parts_of" = some (some (.ref f_38))) (l_38:K.lookup f_38=some ⟨oc_38,od_38,.func (W.fnOf "parts_of" "parts_of" (qan qb4) (qam qb4) (qac qb4) .none kV_38 dc_38 pm_38 an_38 cd_38 ct_38),sl_38⟩) (c_38:W.codeIn K cd_38 "parts_of" = true) (k_38:W.keepIn K (.ref f_38)=true)
   (a_07:W.findIn K (.ref cD) "__init__" = some (some (.ref f_07))) (i_07:W.isFn K (.ref f_07)=true) (l_07:K.lookup f_07=some ⟨oc_07,od_07,.func (W.fnOf "__init__" "Desk.__init__" (qan qaV) (qam qaV) (qac qaV) .none kV_07 dc_07 pm_07 an_07 cd_07 ct_07),sl_07⟩) (c_07:W.codeIn K cd_07 "Desk.__init__" = true) (k_07:W.keepIn K (.ref f_07)=true)
   (a_05:W.findIn K (.ref cD) "family_by" = some (some (.ref f_05))) (i_05:W.isFn K (.ref f_05)=true) (l_05:K.lookup f_05=some ⟨oc_05,od_05,.func (W.fnOf "family_by" "Desk.family_by" (qan qaS) (qam qaS) (qac qaS) .none kV_05 dc_05 pm_05 an_05 cd_05 ct_05),sl_05⟩) (c_05:W.codeIn K cd_05 "Desk.family_by" = true) (k_05:W.keepIn K (.ref f_05)=true)
   (a_02:W.findIn K (.ref cD) "look_for_room" = some (some (.ref f_02))) (i_02:W.isFn K (.ref f_02)=true) (l_02:K.lookup f_02=some ⟨oc_02,od_02,.func (W.fnOf "look_for_room" "Desk.look_for_room" (qan qaF) (qam qaF) (qac qaF) .none kV_02 dc_02 pm_02 an_02 cd_02 ct_02),sl_02⟩) (c_02:W.codeIn K cd_02 "Desk.look_for_room" = true) (k_02:W.keepIn K (.ref f_02)=true)
   (a_08:W.findIn K (.ref cD) "thing_of" = some (some (.ref f_08))) (i_08:W.isFn K (.ref f_08)=true) (l_08:K.lookup f_08=some ⟨oc_08,od_08,.func (W.fnOf "thing_of" "Desk.thing_of" (qan qaX) (qam qaX) (qac qaX) .none kV_08 dc_08 pm_08 an_08 cd_08 ct_08),sl_08⟩) (c_08:W.codeIn K cd_08 "Desk.thing_of" = true) (k_08:W.keepIn K (.ref f_08)=true)
   (a_59:W.nsIn K mainGlobals "made" = some (some (.ref f_59))) (l_59:K.lookup f_59=some ⟨oc_59,od_59,.func (W.fnOf "made" "made" (qan qgd) (qam qgd) (qac qgd) .none kV_59 dc_59 pm_59 an_59 cd_59 ct_59),sl_59⟩) (c_59:W.codeIn K cd_59 "made" = true) (k_59:W.keepIn K (.ref f_59)=true)
   (a_39:W.nsIn K mainGlobals "answered" = some (some (.ref f_39))) (l_39:K.lookup f_39=some ⟨oc_39,od_39,.func (W.fnOf "answered" "answered" (qan qb6) (qam qb6) (qac qb6) .none kV_39 dc_39 pm_39 an_39 cd_39 ct_39),sl_39⟩) (c_39:W.codeIn K cd_39 "answered" = true) (k_39:W.keepIn K (.ref f_39)=true)
   (a_40:W.findIn K (.ref cD) "say" = some (some (.ref f_40))) (i_40:W.isFn K (.ref f_40)=true) (l_40:K.lookup f_40=some ⟨oc_40,od_40,.func (W.fnOf "say" "Desk.say" (qan qb3) (qam qb3) (qac qb3) .none kV_40 dc_40 pm_40 an_40 cd_40 ct_40),sl_40⟩) (c_40:W.codeIn K cd_40 "Desk.say" = true) (k_40:W.keepIn K (.ref f_40)=true)
   (a_41:W.nsIn K mainGlobals "_law_all" = some (some (.ref f_41))) (l_41:K.lookup f_41=some ⟨oc_41,od_41,.func (W.fnOf "_law_all" "_law_all" (qan qb2) (qam qb2) (qac qb2) .none kV_41 dc_41 pm_41 an_41 cd_41 ct_41),sl_41⟩) (c_41:W.codeIn K cd_41 "_law_all" = true) (k_41:W.keepIn K (.ref f_41)=true)
   (a_22:W.nsIn K mainGlobals "_law_alike" = some (some (.ref f_22))) (l_22:K.lookup f_22=some ⟨oc_22,od_22,.func (W.fnOf "_law_alike" "_law_alike" (qan qbx) (qam qbx) (qac qbx) .none kV_22 dc_22 pm_22 an_22 cd_22 ct_22),sl_22⟩) (c_22:W.codeIn K cd_22 "_law_alike" = true) (k_22:W.keepIn K (.ref f_22)=true)
   (a_16:W.nsIn K mainGlobals "_law_joined" = some (some (.ref f_16))) (l_16:K.lookup f_16=some ⟨oc_16,od_16,.func (W.fnOf "_law_joined" "_law_joined" (qan qbi) (qam qbi) (qac qbi) .none kV_16 dc_16 pm_16 an_16 cd_16 ct_16),sl_16⟩) (c_16:W.codeIn K cd_16 "_law_joined" = true) (k_16:W.keepIn K (.ref f_16)=true)
   (a_23:W.nsIn K mainGlobals "_law_fixed" = some (some (.ref f_23))) (l_23:K.lookup f_23=some ⟨oc_23,od_23,.func (W.fnOf "_law_fixed" "_law_fixed" (qan qbD) (qam qbD) (qac qbD) .none kV_23 dc_23 pm_23 an_23 cd_23 ct_23),sl_23⟩) (c_23:W.codeIn K cd_23 "_law_fixed" = true) (k_23:W.keepIn K (.ref f_23)=true)
   (a_law:W.nsIn K mainGlobals "law" = some (some (.ref f_law))) (l_law:K.lookup f_law=some ⟨oc_law,od_law,.func (W.fnOf "law" "law" (qan qg7) (qam qg7) (qac qg7) .none kV_law dc_law pm_law an_law cd_law ct_law),sl_law⟩) (c_law:W.codeIn K cd_law "law" = true) (k_law:W.keepIn K (.ref f_law)=true)
   (z_isinstance:W.nsIn K mainGlobals "isinstance" = some none)
   (z_int:W.nsIn K mainGlobals "int" = some none)
   (z_bool:W.nsIn K mainGlobals "bool" = some none)
   (z_len:W.nsIn K mainGlobals "len" = some none)
   (z_range:W.nsIn K mainGlobals "range" = some none)
   (z_sorted:W.nsIn K mainGlobals "sorted" = some none)
   (z_set:W.nsIn K mainGlobals "set" = some none)
   (z_list:W.nsIn K mainGlobals "list" = some none)
   (z_str:W.nsIn K mainGlobals "str" = some none)
   (z_all:W.nsIn K mainGlobals "all" = some none)
   (z_zip:W.nsIn K mainGlobals "zip" = some none)
   {t_MOST_SETS:Tok} (v_MOST_SETS:W.nsIn K mainGlobals "MOST_SETS" = some (some (.int 70 t_MOST_SETS)))
   {t_MOST_LETTERS:Tok} (v_MOST_LETTERS:W.nsIn K mainGlobals "MOST_LETTERS" = some (some (.int 8 t_MOST_LETTERS)))
   {t_MOST_NAMES:Tok} (v_MOST_NAMES:W.nsIn K mainGlobals "MOST_NAMES" = some (some (.int 8 t_MOST_NAMES)))
   {t_NO_SETS:Tok} (v_NO_SETS:W.nsIn K mainGlobals "NO_SETS" = some (some (.str "none" t_NO_SETS)))
   {t_NO_NAMES:Tok} (v_NO_NAMES:W.nsIn K mainGlobals "NO_NAMES" = some (some (.str "-" t_NO_NAMES)))
   {t_MOST_KEPT:Tok} (v_MOST_KEPT:W.nsIn K mainGlobals "MOST_KEPT" = some (some (.int 20 t_MOST_KEPT)))
   {tW1 tW2 tW3 tW4 tW5 tW6 tW7 tW8 tW9 tW10 tW11 tW12 tW13 tW14 tW15:Addr} {hW1 hW2 hW3 hW4 hW5 hW6 hW7 hW8 hW9 hW10 hW11 hW12 hW13 hW14 hW15:Int} {kW1 kW2 kW3 kW4 kW5 kW6 kW7 kW8 kW9 kW10 kW11 kW12 kW13 kW14 kW15:Tok} {ep:Nat} (gD:W.nsIn K mainGlobals "Desk" = some (some (.ref cD))) (gW:W.nsIn K mainGlobals "WANTED" = some (some (.ref aW))) (lW:K.lookup aW=some ⟨.type "dict",none,.dict #[⟨hW1,.str "let" kW1,.ref tW1⟩,⟨hW2,.str "hits" kW2,.ref tW2⟩,⟨hW3,.str "rests" kW3,.ref tW3⟩,⟨hW4,.str "either" kW4,.ref tW4⟩,⟨hW5,.str "both" kW5,.ref tW5⟩,⟨hW6,.str "in" kW6,.ref tW6⟩,⟨hW7,.str "out" kW7,.ref tW7⟩,⟨hW8,.str "show" kW8,.ref tW8⟩,⟨hW9,.str "says" kW9,.ref tW9⟩,⟨hW10,.str "look" kW10,.ref tW10⟩,⟨hW11,.str "held" kW11,.ref tW11⟩,⟨hW12,.str "compare" kW12,.ref tW12⟩,⟨hW13,.str "turns" kW13,.ref tW13⟩,⟨hW14,.str "ranks" kW14,.ref tW14⟩,⟨hW15,.str "weights" kW15,.ref tW15⟩] ep,#[]⟩) (nW:(aW==sysModules)=false)
   {oW1:Option Addr} {nn1:Nat} {sW1:Array (Option Value)} {u1_0 u1_1:Tok} (eW1:hW1=hashStr w "let") (lW1:K.lookup tW1=some ⟨.type "tuple",oW1,.seq #[.str "new" u1_0,.str "text" u1_1] nn1,sW1⟩)
   {oW2:Option Addr} {nn2:Nat} {sW2:Array (Option Value)} {u2_0 u2_1:Tok} (eW2:hW2=hashStr w "hits") (lW2:K.lookup tW2=some ⟨.type "tuple",oW2,.seq #[.str "new" u2_0,.str "family" u2_1] nn2,sW2⟩)
   {oW3:Option Addr} {nn3:Nat} {sW3:Array (Option Value)} {u3_0 u3_1:Tok} (eW3:hW3=hashStr w "rests") (lW3:K.lookup tW3=some ⟨.type "tuple",oW3,.seq #[.str "new" u3_0,.str "family" u3_1] nn3,sW3⟩)
   {oW4:Option Addr} {nn4:Nat} {sW4:Array (Option Value)} {u4_0 u4_1 u4_2:Tok} (eW4:hW4=hashStr w "either") (lW4:K.lookup tW4=some ⟨.type "tuple",oW4,.seq #[.str "new" u4_0,.str "family" u4_1,.str "family" u4_2] nn4,sW4⟩)
   {oW5:Option Addr} {nn5:Nat} {sW5:Array (Option Value)} {u5_0 u5_1 u5_2:Tok} (eW5:hW5=hashStr w "both") (lW5:K.lookup tW5=some ⟨.type "tuple",oW5,.seq #[.str "new" u5_0,.str "family" u5_1,.str "family" u5_2] nn5,sW5⟩)
   {oW6:Option Addr} {nn6:Nat} {sW6:Array (Option Value)} {u6_0 u6_1 u6_2:Tok} (eW6:hW6=hashStr w "in") (lW6:K.lookup tW6=some ⟨.type "tuple",oW6,.seq #[.str "new" u6_0,.str "family" u6_1,.str "name" u6_2] nn6,sW6⟩)
   {oW7:Option Addr} {nn7:Nat} {sW7:Array (Option Value)} {u7_0 u7_1 u7_2:Tok} (eW7:hW7=hashStr w "out") (lW7:K.lookup tW7=some ⟨.type "tuple",oW7,.seq #[.str "new" u7_0,.str "family" u7_1,.str "name" u7_2] nn7,sW7⟩)
   {oW8:Option Addr} {nn8:Nat} {sW8:Array (Option Value)} {u8_0:Tok} (eW8:hW8=hashStr w "show") (lW8:K.lookup tW8=some ⟨.type "tuple",oW8,.seq #[.str "family" u8_0] nn8,sW8⟩)
   {oW9:Option Addr} {nn9:Nat} {sW9:Array (Option Value)} {u9_0 u9_1:Tok} (eW9:hW9=hashStr w "says") (lW9:K.lookup tW9=some ⟨.type "tuple",oW9,.seq #[.str "family" u9_0,.str "set" u9_1] nn9,sW9⟩)
   {oW10:Option Addr} {nn10:Nat} {sW10:Array (Option Value)} {u10_0 u10_1:Tok} (eW10:hW10=hashStr w "look") (lW10:K.lookup tW10=some ⟨.type "tuple",oW10,.seq #[.str "family" u10_0,.str "set" u10_1] nn10,sW10⟩)
   {oW11:Option Addr} {nn11:Nat} {sW11:Array (Option Value)} {u11_0 u11_1:Tok} (eW11:hW11=hashStr w "held") (lW11:K.lookup tW11=some ⟨.type "tuple",oW11,.seq #[.str "family" u11_0,.str "family" u11_1] nn11,sW11⟩)
   {oW12:Option Addr} {nn12:Nat} {sW12:Array (Option Value)} {u12_0 u12_1 u12_2:Tok} (eW12:hW12=hashStr w "compare") (lW12:K.lookup tW12=some ⟨.type "tuple",oW12,.seq #[.str "family" u12_0,.str "name" u12_1,.str "name" u12_2] nn12,sW12⟩)
   {oW13:Option Addr} {nn13:Nat} {sW13:Array (Option Value)} {u13_0:Tok} (eW13:hW13=hashStr w "turns") (lW13:K.lookup tW13=some ⟨.type "tuple",oW13,.seq #[.str "family" u13_0] nn13,sW13⟩)
   {oW14:Option Addr} {nn14:Nat} {sW14:Array (Option Value)} {u14_0:Tok} (eW14:hW14=hashStr w "ranks") (lW14:K.lookup tW14=some ⟨.type "tuple",oW14,.seq #[.str "family" u14_0] nn14,sW14⟩)
   {oW15:Option Addr} {nn15:Nat} {sW15:Array (Option Value)} {u15_0:Tok} (eW15:hW15=hashStr w "weights") (lW15:K.lookup tW15=some ⟨.type "tuple",oW15,.seq #[.str "family" u15_0] nn15,sW15⟩)
   (pgD:W.plainGet K cD Str.empty=true) (hdD:W.hasDictIn K cD=true) (poD:W.plainOver K cD=true) (saD:W.findIn K (.ref cD) "__setattr__" = some (some (.builtin "object.__setattr__"))) (nwD:W.findIn K (.ref cD) "words" = some none) (nkD:W.findIn K (.ref cD) "kept" = some none) (mkD:W.makesIn K cD=true) (kpD:W.keepIn K (.ref cD)=true) :
   ∃fd:FuncData,(∀(s:Shared) (v:Value),BindsTo s fd ⟨[v],[]⟩ [("_law_script",v)])∧∀base:Heap,K.In base→base.Ns mainGlobals mg→qa1 l.prog w K mg base CX0 9 fa fd ["_law_script"] ((qkM K)):=by
 have e:=hfa.symm.trans (W.mg_of X G a_law)
 cases e
 have T:Txt mg:=⟨W.mg_none_of X G z_isinstance,W.mg_none_of X G z_int,W.mg_none_of X G z_bool,W.mg_none_of X G z_len,W.mg_none_of X G z_range,W.mg_none_of X G z_sorted,W.mg_none_of X G z_set,W.mg_none_of X G z_list,W.mg_none_of X G z_str,W.mg_none_of X G z_all,W.mg_none_of X G z_zip,⟨_,W.mg_of X G v_MOST_SETS⟩,⟨_,W.mg_of X G v_MOST_LETTERS⟩,⟨_,W.mg_of X G v_MOST_NAMES⟩,⟨_,W.mg_of X G v_NO_SETS⟩,⟨_,W.mg_of X G v_NO_NAMES⟩,⟨_,W.mg_of X G v_MOST_KEPT⟩⟩
 have EW:qrV K w qiq [⟨hW1,.str "let" kW1,.ref tW1⟩,⟨hW2,.str "hits" kW2,.ref tW2⟩,⟨hW3,.str "rests" kW3,.ref tW3⟩,⟨hW4,.str "either" kW4,.ref tW4⟩,⟨hW5,.str "both" kW5,.ref tW5⟩,⟨hW6,.str "in" kW6,.ref tW6⟩,⟨hW7,.str "out" kW7,.ref tW7⟩,⟨hW8,.str "show" kW8,.ref tW8⟩,⟨hW9,.str "says" kW9,.ref tW9⟩,⟨hW10,.str "look" kW10,.ref tW10⟩,⟨hW11,.str "held" kW11,.ref tW11⟩,⟨hW12,.str "compare" kW12,.ref tW12⟩,⟨hW13,.str "turns" kW13,.ref tW13⟩,⟨hW14,.str "ranks" kW14,.ref tW14⟩,⟨hW15,.str "weights" kW15,.ref tW15⟩]:=⟨⟨_,_,by rw [eW1],qb9 lW1 (by simp) (.cons ⟨_,rfl⟩ (.cons ⟨_,rfl⟩ .nil))⟩,⟨_,_,by rw [eW2],qb9 lW2 (by simp) (.cons ⟨_,rfl⟩ (.cons ⟨_,rfl⟩ .nil))⟩,⟨_,_,by rw [eW3],qb9 lW3 (by simp) (.cons ⟨_,rfl⟩ (.cons ⟨_,rfl⟩ .nil))⟩,⟨_,_,by rw [eW4],qb9 lW4 (by simp) (.cons ⟨_,rfl⟩ (.cons ⟨_,rfl⟩ (.cons ⟨_,rfl⟩ .nil)))⟩,⟨_,_,by rw [eW5],qb9 lW5 (by simp) (.cons ⟨_,rfl⟩ (.cons ⟨_,rfl⟩ (.cons ⟨_,rfl⟩ .nil)))⟩,⟨_,_,by rw [eW6],qb9 lW6 (by simp) (.cons ⟨_,rfl⟩ (.cons ⟨_,rfl⟩ (.cons ⟨_,rfl⟩ .nil)))⟩,⟨_,_,by rw [eW7],qb9 lW7 (by simp) (.cons ⟨_,rfl⟩ (.cons ⟨_,rfl⟩ (.cons ⟨_,rfl⟩ .nil)))⟩,⟨_,_,by rw [eW8],qb9 lW8 (by simp) (.cons ⟨_,rfl⟩ .nil)⟩,⟨_,_,by rw [eW9],qb9 lW9 (by simp) (.cons ⟨_,rfl⟩ (.cons ⟨_,rfl⟩ .nil))⟩,⟨_,_,by rw [eW10],qb9 lW10 (by simp) (.cons ⟨_,rfl⟩ (.cons ⟨_,rfl⟩ .nil))⟩,⟨_,_,by rw [eW11],qb9 lW11 (by simp) (.cons ⟨_,rfl⟩ (.cons ⟨_,rfl⟩ .nil))⟩,⟨_,_,by rw [eW12],qb9 lW12 (by simp) (.cons ⟨_,rfl⟩ (.cons ⟨_,rfl⟩ (.cons ⟨_,rfl⟩ .nil)))⟩,⟨_,_,by rw [eW13],qb9 lW13 (by simp) (.cons ⟨_,rfl⟩ .nil)⟩,⟨_,_,by rw [eW14],qb9 lW14 (by simp) (.cons ⟨_,rfl⟩ .nil)⟩,⟨_,_,by rw [eW15],qb9 lW15 (by simp) (.cons ⟨_,rfl⟩ .nil)⟩,trivial⟩
 have Z:Xt l.prog w K mg cD aW:=⟨W.mg_of X G gD,⟨pgD,hdD,poD,saD⟩,nwD,nkD,W.mg_of X G gW,qrd lW nW EW⟩
 have F_31:=qat (st:=qb1) l_31 c_31 k_31
 have b_31:=F_31.binds (ps:=["thing"]) fun _ _ _ _ _ _ us hl=>match us,hl with | [_],_=>rfl
 have F_24:=qat (st:=qbP) l_24 c_24 k_24
 have b_24:=F_24.binds (ps:=["_law_script", "_law_k"]) fun _ _ _ _ _ _ us hl=>match us,hl with | [_,_],_=>rfl
 have F_32:=qat (st:=qbZ) l_32 c_32 k_32
 have b_32:=F_32.binds (ps:=["_law_cell_here", "_law_k"]) fun _ _ _ _ _ _ us hl=>match us,hl with | [_,_],_=>rfl
 have F_25:=qat (st:=qbI) l_25 c_25 k_25
 have b_25:=F_25.binds (ps:=["_law_one"]) fun _ _ _ _ _ _ us hl=>match us,hl with | [_],_=>rfl
 have F_12:=qat (st:=qbf) l_12 c_12 k_12
 have b_12:=F_12.binds (ps:=["_law_script", "_law_start", "_law_many", "_law_most"]) fun _ _ _ _ _ _ us hl=>match us,hl with | [_,_,_,_],_=>rfl
 have F_17:=qat (st:=qbC) l_17 c_17 k_17
 have b_17:=F_17.binds (ps:=["_law_cell_here", "_law_count"]) fun _ _ _ _ _ _ us hl=>match us,hl with | [_,_],_=>rfl
 have F_06:=qat (st:=qaW) l_06 c_06 k_06
 have b_06:=F_06.binds (ps:=["_law_words_here", "_law_one"]) fun _ _ _ _ _ _ us hl=>match us,hl with | [_,_],_=>rfl
 have F_26:=qat (st:=qbH) l_26 c_26 k_26
 have b_26:=F_26.binds (ps:=["_law_words_here", "_law_family_here"]) fun _ _ _ _ _ _ us hl=>match us,hl with | [_,_],_=>rfl
 have F_43:=qat (st:=qcT) l_43 c_43 k_43
 have b_43:=F_43.binds (ps:=["many", "thing"]) fun _ _ _ _ _ _ us hl=>match us,hl with | [_,_],_=>rfl
 have F_27:=qat (st:=qbM) l_27 c_27 k_27
 have b_27:=F_27.binds (ps:=["many", "thing"]) fun _ _ _ _ _ _ us hl=>match us,hl with | [_,_],_=>rfl
 have F_33:=qat (st:=qb5) l_33 c_33 k_33
 have b_33:=F_33.binds (ps:=["one"]) fun _ _ _ _ _ _ us hl=>match us,hl with | [_],_=>rfl
 have F_44:=qat (st:=qcY) l_44 c_44 k_44
 have b_44:=F_44.binds (ps:=["names"]) fun _ _ _ _ _ _ us hl=>match us,hl with | [_],_=>rfl
 have F_45:=qat (st:=qc2) l_45 c_45 k_45
 have b_45:=F_45.binds (ps:=["text", "sign"]) fun _ _ _ _ _ _ us hl=>match us,hl with | [_,_],_=>rfl
 have F_42:=qat (st:=qcl) l_42 c_42 k_42
 have b_42:=F_42.binds (ps:=["text"]) fun _ _ _ _ _ _ us hl=>match us,hl with | [_],_=>rfl
 have F_18:=qat (st:=qbA) l_18 c_18 k_18
 have b_18:=F_18.binds (ps:=["text"]) fun _ _ _ _ _ _ us hl=>match us,hl with | [_],_=>rfl
 have F_28:=qat (st:=qbK) l_28 c_28 k_28
 have b_28:=F_28.binds (ps:=["words", "word"]) fun _ _ _ _ _ _ us hl=>match us,hl with | [_,_],_=>rfl
 have F_34:=qat (st:=qbX) l_34 c_34 k_34
 have b_34:=F_34.binds (ps:=["words", "one"]) fun _ _ _ _ _ _ us hl=>match us,hl with | [_,_],_=>rfl
 have F_13:=qat (st:=qbg) l_13 c_13 k_13
 have b_13:=F_13.binds (ps:=["words", "family"]) fun _ _ _ _ _ _ us hl=>match us,hl with | [_,_],_=>rfl
 have F_35:=qat (st:=qbY) l_35 c_35 k_35
 have b_35:=F_35.binds (ps:=["words", "text"]) fun _ _ _ _ _ _ us hl=>match us,hl with | [_,_],_=>rfl
 have F_14:=qat (st:=qbj) l_14 c_14 k_14
 have b_14:=F_14.binds (ps:=["words", "text"]) fun _ _ _ _ _ _ us hl=>match us,hl with | [_,_],_=>rfl
 have F_48:=qat (st:=qd9) l_48 c_48 k_48
 have b_48:=F_48.binds (ps:=["one", "other"]) fun _ _ _ _ _ _ us hl=>match us,hl with | [_,_],_=>rfl
 have F_49:=qat (st:=qdY) l_49 c_49 k_49
 have b_49:=F_49.binds (ps:=["one", "other"]) fun _ _ _ _ _ _ us hl=>match us,hl with | [_,_],_=>rfl
 have F_54:=qat (st:=qgf) l_54 c_54 k_54
 have b_54:=F_54.binds (ps:=["many", "one"]) fun _ _ _ _ _ _ us hl=>match us,hl with | [_,_],_=>rfl
 have F_55:=qat (st:=qf4) l_55 c_55 k_55
 have b_55:=F_55.binds (ps:=["family", "one"]) fun _ _ _ _ _ _ us hl=>match us,hl with | [_,_],_=>rfl
 have F_50:=qat (st:=qee) l_50 c_50 k_50
 have b_50:=F_50.binds (ps:=["some"]) fun _ _ _ _ _ _ us hl=>match us,hl with | [_],_=>rfl
 have F_51:=qat (st:=qed) l_51 c_51 k_51
 have b_51:=F_51.binds (ps:=["many", "family"]) fun _ _ _ _ _ _ us hl=>match us,hl with | [_,_],_=>rfl
 have F_09:=qat (st:=qa6) l_09 c_09 k_09
 have b_09:=F_09.binds (ps:=["family", "one"]) fun _ _ _ _ _ _ us hl=>match us,hl with | [_,_],_=>rfl
 have F_56:=qat (st:=qgl) l_56 c_56 k_56
 have b_56:=F_56.binds (ps:=["many", "family"]) fun _ _ _ _ _ _ us hl=>match us,hl with | [_,_],_=>rfl
 have F_29:=qat (st:=qbL) l_29 c_29 k_29
 have b_29:=F_29.binds (ps:=["family", "k"]) fun _ _ _ _ _ _ us hl=>match us,hl with | [_,_],_=>rfl
 have F_19:=qat (st:=qbw) l_19 c_19 k_19
 have b_19:=F_19.binds (ps:=["family", "k"]) fun _ _ _ _ _ _ us hl=>match us,hl with | [_,_],_=>rfl
 have F_46:=qat (st:=qc1) l_46 c_46 k_46
 have b_46:=F_46.binds (ps:=["one", "other"]) fun _ _ _ _ _ _ us hl=>match us,hl with | [_,_],_=>rfl
 have F_57:=qat (st:=qf3) l_57 c_57 k_57
 have b_57:=F_57.binds (ps:=["one", "other"]) fun _ _ _ _ _ _ us hl=>match us,hl with | [_,_],_=>rfl
 have F_00:=qat (st:=qaE) l_00 c_00 k_00
 have b_00:=F_00.binds (ps:=["family", "one", "k"]) fun _ _ _ _ _ _ us hl=>match us,hl with | [_,_,_],_=>rfl
 have F_47:=qat (st:=qcW) l_47 c_47 k_47
 have b_47:=F_47.binds (ps:=["family", "one"]) fun _ _ _ _ _ _ us hl=>match us,hl with | [_,_],_=>rfl
 have F_04:=qat (st:=qaR) l_04 c_04 k_04
 have b_04:=F_04.binds (ps:=["many", "one", "other"]) fun _ _ _ _ _ _ us hl=>match us,hl with | [_,_,_],_=>rfl
 have F_58:=qat (st:=qgj) l_58 c_58 k_58
 have b_58:=F_58.binds (ps:=["many", "one", "other"]) fun _ _ _ _ _ _ us hl=>match us,hl with | [_,_,_],_=>rfl
 have F_36:=qat (st:=qb0) l_36 c_36 k_36
 have b_36:=F_36.binds (ps:=["many", "family"]) fun _ _ _ _ _ _ us hl=>match us,hl with | [_,_],_=>rfl
 have F_30:=qat (st:=qbJ) l_30 c_30 k_30
 have b_30:=F_30.binds (ps:=["many", "table", "k"]) fun _ _ _ _ _ _ us hl=>match us,hl with | [_,_,_],_=>rfl
 have F_52:=qat (st:=qeb) l_52 c_52 k_52
 have b_52:=F_52.binds (ps:=["many", "family"]) fun _ _ _ _ _ _ us hl=>match us,hl with | [_,_],_=>rfl
 have F_10:=qat (st:=qa5) l_10 c_10 k_10
 have b_10:=F_10.binds (ps:=["numbers"]) fun _ _ _ _ _ _ us hl=>match us,hl with | [_],_=>rfl
 have F_01:=qat (st:=qaG) l_01 c_01 k_01
 have b_01:=F_01.binds (ps:=["words", "told"]) fun _ _ _ _ _ _ us hl=>match us,hl with | [_,_],_=>rfl
 have F_15:=qat (st:=qbh) l_15 c_15 k_15
 have b_15:=F_15.binds (ps:=["words", "told"]) fun _ _ _ _ _ _ us hl=>match us,hl with | [_,_],_=>rfl
 have F_53:=qat (st:=qd5) l_53 c_53 k_53
 have b_53:=F_53.binds (ps:=["many", "family"]) fun _ _ _ _ _ _ us hl=>match us,hl with | [_,_],_=>rfl
 have F_20:=qat (st:=qbv) l_20 c_20 k_20
 have b_20:=F_20.binds (ps:=["words", "told"]) fun _ _ _ _ _ _ us hl=>match us,hl with | [_,_],_=>rfl
 have F_21:=qat (st:=qbB) l_21 c_21 k_21
 have b_21:=F_21.binds (ps:=["many", "family"]) fun _ _ _ _ _ _ us hl=>match us,hl with | [_,_],_=>rfl
 have F_11:=qat (st:=qa4) l_11 c_11 k_11
 have b_11:=F_11.binds (ps:=["words", "told"]) fun _ _ _ _ _ _ us hl=>match us,hl with | [_,_],_=>rfl
 have F_03:=qat (st:=qaN) l_03 c_03 k_03
 have b_03:=F_03.binds (ps:=["many", "family", "x", "y"]) fun _ _ _ _ _ _ us hl=>match us,hl with | [_,_,_,_],_=>rfl
 have F_37:=qat (st:=qb7) l_37 c_37 k_37
 have b_37:=F_37.binds (ps:=["word"]) fun _ _ _ _ _ _ us hl=>match us,hl with | [_],_=>rfl
 have F_38:=qat (st:=qb4) l_38 c_38 k_38
 have b_38:=F_38.binds (ps:=["row"]) fun _ _ _ _ _ _ us hl=>match us,hl with | [_],_=>rfl
 have F_07:=qat (st:=qaV) l_07 c_07 k_07
 have b_07:=F_07.binds (ps:=["self", "text"]) fun _ _ _ _ _ _ us hl=>match us,hl with | [_,_],_=>rfl
 have F_05:=qat (st:=qaS) l_05 c_05 k_05
 have b_05:=F_05.binds (ps:=["self", "word"]) fun _ _ _ _ _ _ us hl=>match us,hl with | [_,_],_=>rfl
 have F_02:=qat (st:=qaF) l_02 c_02 k_02
 have b_02:=F_02.binds (ps:=["self", "name"]) fun _ _ _ _ _ _ us hl=>match us,hl with | [_,_],_=>rfl
 have F_08:=qat (st:=qaX) l_08 c_08 k_08
 have b_08:=F_08.binds (ps:=["self", "kind", "word"]) fun _ _ _ _ _ _ us hl=>match us,hl with | [_,_,_],_=>rfl
 have F_59:=qat (st:=qgd) l_59 c_59 k_59
 have b_59:=F_59.binds (ps:=["many", "deed", "things"]) fun _ _ _ _ _ _ us hl=>match us,hl with | [_,_,_],_=>rfl
 have F_39:=qat (st:=qb6) l_39 c_39 k_39
 have b_39:=F_39.binds (ps:=["words", "deed", "things"]) fun _ _ _ _ _ _ us hl=>match us,hl with | [_,_,_],_=>rfl
 have F_40:=qat (st:=qb3) l_40 c_40 k_40
 have b_40:=F_40.binds (ps:=["self", "row"]) fun _ _ _ _ _ _ us hl=>match us,hl with | [_,_],_=>rfl
 have F_41:=qat (st:=qb2) l_41 c_41 k_41
 have b_41:=F_41.binds (ps:=["_law_desk", "_law_rows"]) fun _ _ _ _ _ _ us hl=>match us,hl with | [_,_],_=>rfl
 have F_22:=qat (st:=qbx) l_22 c_22 k_22
 have b_22:=F_22.binds (ps:=["_law_desk", "_law_one", "_law_other"]) fun _ _ _ _ _ _ us hl=>match us,hl with | [_,_,_],_=>rfl
 have F_16:=qat (st:=qbi) l_16 c_16 k_16
 have b_16:=F_16.binds (ps:=["_law_desk"]) fun _ _ _ _ _ _ us hl=>match us,hl with | [_],_=>rfl
 have F_23:=qat (st:=qbD) l_23 c_23 k_23
 have b_23:=F_23.binds (ps:=["_law_desk", "_law_word"]) fun _ _ _ _ _ _ us hl=>match us,hl with | [_,_],_=>rfl
 have F_law:=qat (st:=qg7) l_law c_law k_law
 refine ⟨W.fnOf "law" "law" (qan qg7) (qam qg7) (qac qg7) .none kV_law dc_law pm_law an_law cd_law ct_law,fun s v => .of_eq rfl,fun base _ _=>?_⟩
 have C_31:Cal l.prog w K mg base "is_whole" 1 ["thing"] qiF _ _:=⟨qi0 F_31 T ,W.mg_of X G a_31,k_31,b_31⟩
 have C_24:Cal l.prog w K mg base "_law_cell" 1 ["_law_script", "_law_k"] (qjM K) _ _:=⟨qh6 F_24 T ,W.mg_of X G a_24,k_24,b_24⟩
 have C_32:Cal l.prog w K mg base "_law_mix" 1 ["_law_cell_here", "_law_k"] qkU _ _:=⟨qil F_32 T ,W.mg_of X G a_32,k_32,b_32⟩
 have C_25:Cal l.prog w K mg base "_law_size" 1 ["_law_one"] qkT _ _:=⟨qhA F_25 T ,W.mg_of X G a_25,k_25,b_25⟩
 have C_12:Cal l.prog w K mg base "_law_family" 2 ["_law_script", "_law_start", "_law_many", "_law_most"] (qgx K) _ _:=⟨qfZ F_12 T C_24 C_32 C_25,W.mg_of X G a_12,k_12,b_12⟩
 have C_17:Cal l.prog w K mg base "_law_words" 2 ["_law_cell_here", "_law_count"] (qeY K) _ _:=⟨qgX F_17 T C_32,W.mg_of X G a_17,k_17,b_17⟩
 have C_06:Cal l.prog w K mg base "_law_set_text" 1 ["_law_words_here", "_law_one"] (qiV K) _ _:=⟨qeA F_06 T ,W.mg_of X G a_06,k_06,b_06⟩
 have C_26:Cal l.prog w K mg base "_law_text" 2 ["_law_words_here", "_law_family_here"] (qi2 K) _ _:=⟨qhv F_26 T C_06,W.mg_of X G a_26,k_26,b_26⟩
 have C_43:Cal l.prog w K mg base "is_set" 2 ["many", "thing"] qpU _ _:=⟨qkD F_43 T C_31,W.mg_of X G a_43,k_43,b_43⟩
 have C_27:Cal l.prog w K mg base "is_family" 3 ["many", "thing"] (qiv K) _ _:=⟨qhF F_27 T C_43,W.mg_of X G a_27,k_27,b_27⟩
 have C_33:Cal l.prog w K mg base "names_in" 1 ["one"] qdx _ _:=⟨qiB F_33 T ,W.mg_of X G a_33,k_33,b_33⟩
 have C_44:Cal l.prog w K mg base "set_of" 1 ["names"] (qip K) _ _:=⟨qkS F_44 T ,W.mg_of X G a_44,k_44,b_44⟩
 have C_45:Cal l.prog w K mg base "parted" 1 ["text", "sign"] qdM _ _:=⟨qlZ F_45 T ,W.mg_of X G a_45,k_45,b_45⟩
 have C_42:Cal l.prog w K mg base "is_word" 1 ["text"] qeJ _ _:=⟨qj0 F_42 T ,W.mg_of X G a_42,k_42,b_42⟩
 have C_18:Cal l.prog w K mg base "read_names" 2 ["text"] (qdm K) _ _:=⟨qgs F_18 T C_45 C_42,W.mg_of X G a_18,k_18,b_18⟩
 have C_28:Cal l.prog w K mg base "read_name" 1 ["words", "word"] (qcU K) _ _:=⟨qh9 F_28 T ,W.mg_of X G a_28,k_28,b_28⟩
 have C_34:Cal l.prog w K mg base "show_set" 2 ["words", "one"] (qcE K) _ _:=⟨qiK F_34 T C_33,W.mg_of X G a_34,k_34,b_34⟩
 have C_13:Cal l.prog w K mg base "show_family" 3 ["words", "family"] (qfe K) _ _:=⟨qf1 F_13 T C_34,W.mg_of X G a_13,k_13,b_13⟩
 have C_35:Cal l.prog w K mg base "read_set" 2 ["words", "text"] (qdH K) _ _:=⟨qiM F_35 T C_45 C_44 C_28,W.mg_of X G a_35,k_35,b_35⟩
 have C_14:Cal l.prog w K mg base "read_family" 4 ["words", "text"] (qfB K) _ _:=⟨qfX F_14 T C_45 C_35 C_27,W.mg_of X G a_14,k_14,b_14⟩
 have C_48:Cal l.prog w K mg base "holds" 1 ["one", "other"] qix _ _:=⟨qmT F_48 T ,W.mg_of X G a_48,k_48,b_48⟩
 have C_49:Cal l.prog w K mg base "meets" 1 ["one", "other"] qii _ _:=⟨qnb F_49 T ,W.mg_of X G a_49,k_49,b_49⟩
 have C_54:Cal l.prog w K mg base "rest" 1 ["many", "one"] qjD _ _:=⟨qpH F_54 T ,W.mg_of X G a_54,k_54,b_54⟩
 have C_55:Cal l.prog w K mg base "says" 2 ["family", "one"] (qfQ K) _ _:=⟨qpw F_55 T C_48,W.mg_of X G a_55,k_55,b_55⟩
 have C_50:Cal l.prog w K mg base "least" 3 ["some"] (qd7 K) _ _:=⟨qm0 F_50 T C_55,W.mg_of X G a_50,k_50,b_50⟩
 have C_51:Cal l.prog w K mg base "rests" 2 ["many", "family"] (qiC K) _ _:=⟨qnz F_51 T C_54,W.mg_of X G a_51,k_51,b_51⟩
 have C_09:Cal l.prog w K mg base "first_missed" 2 ["family", "one"] (qfl K) _ _:=⟨qeT F_09 T C_49,W.mg_of X G a_09,k_09,b_09⟩
 have C_56:Cal l.prog w K mg base "hits" 3 ["many", "family"] (qml K) _ _:=⟨qo2 F_56 T C_55 C_09,W.mg_of X G a_56,k_56,b_56⟩
 have C_29:Cal l.prog w K mg base "always_in" 4 ["family", "k"] (qsE K) _ _:=⟨qho F_29 T C_50,W.mg_of X G a_29,k_29,b_29⟩
 have C_19:Cal l.prog w K mg base "always_out" 4 ["family", "k"] (qpX K) _ _:=⟨qgK F_19 T C_50,W.mg_of X G a_19,k_19,b_19⟩
 have C_46:Cal l.prog w K mg base "either" 4 ["one", "other"] (qgO K) _ _:=⟨qk4 F_46 T C_50,W.mg_of X G a_46,k_46,b_46⟩
 have C_57:Cal l.prog w K mg base "both" 4 ["one", "other"] (qkw K) _ _:=⟨qoI F_57 T C_50,W.mg_of X G a_57,k_57,b_57⟩
 have C_00:Cal l.prog w K mg base "first_met_by_alone" 1 ["family", "one", "k"] (qiz K) _ _:=⟨qcM F_00 T ,W.mg_of X G a_00,k_00,b_00⟩
 have C_47:Cal l.prog w K mg base "looked" 3 ["family", "one"] (qgo K) _ _:=⟨qk1 F_47 T C_09 C_33 C_00,W.mg_of X G a_47,k_47,b_47⟩
 have C_04:Cal l.prog w K mg base "first_left_out" 3 ["many", "one", "other"] (ql5 K) _ _:=⟨qec F_04 T C_55 C_54,W.mg_of X G a_04,k_04,b_04⟩
 have C_58:Cal l.prog w K mg base "held" 4 ["many", "one", "other"] (qk9 K) _ _:=⟨qp0 F_58 T C_04 C_09,W.mg_of X G a_58,k_58,b_58⟩
 have C_36:Cal l.prog w K mg base "table_of" 3 ["many", "family"] (qfx K) _ _:=⟨qiu F_36 T C_55,W.mg_of X G a_36,k_36,b_36⟩
 have C_30:Cal l.prog w K mg base "turned_by" 1 ["many", "table", "k"] (qgA K) _ _:=⟨qh3 F_30 T ,W.mg_of X G a_30,k_30,b_30⟩
 have C_52:Cal l.prog w K mg base "turns" 4 ["many", "family"] (qiA K) _ _:=⟨qm1 F_52 T C_36 C_30,W.mg_of X G a_52,k_52,b_52⟩
 have C_10:Cal l.prog w K mg base "show_numbers" 1 ["numbers"] (qfC K) _ _:=⟨qfA F_10 T ,W.mg_of X G a_10,k_10,b_10⟩
 have C_01:Cal l.prog w K mg base "show_word_and_sets" 3 ["words", "told"] (qgy K) _ _:=⟨qcP F_01 T C_34,W.mg_of X G a_01,k_01,b_01⟩
 have C_15:Cal l.prog w K mg base "show_looked" 4 ["words", "told"] (qo9 K) _ _:=⟨qfV F_15 T C_01 C_34,W.mg_of X G a_15,k_15,b_15⟩
 have C_53:Cal l.prog w K mg base "ranks" 1 ["many", "family"] qih _ _:=⟨qm9 F_53 T ,W.mg_of X G a_53,k_53,b_53⟩
 have C_20:Cal l.prog w K mg base "show_ranks" 1 ["words", "told"] qih _ _:=⟨qgq F_20 T ,W.mg_of X G a_20,k_20,b_20⟩
 have C_21:Cal l.prog w K mg base "by_weights" 1 ["many", "family"] qih _ _:=⟨qgR F_21 T ,W.mg_of X G a_21,k_21,b_21⟩
 have C_11:Cal l.prog w K mg base "show_weights" 1 ["words", "told"] qih _ _:=⟨qfn F_11 T ,W.mg_of X G a_11,k_11,b_11⟩
 have C_03:Cal l.prog w K mg base "compared_unlike" 1 ["many", "family", "x", "y"] qih _ _:=⟨qdq F_03 T ,W.mg_of X G a_03,k_03,b_03⟩
 have C_37:Cal l.prog w K mg base "new_name" 2 ["word"] qfK _ _:=⟨qiZ F_37 T C_42,W.mg_of X G a_37,k_37,b_37⟩
 have C_38:Cal l.prog w K mg base "parts_of" 1 ["row"] (qe1 K) _ _:=⟨qiX F_38 T Z ,W.mg_of X G a_38,k_38,b_38⟩
 have C_07:qpV l.prog w K mg base cD 3 ["self", "text"] (qlr cD) _ _:=⟨qeF F_07 T Z C_18,⟨mkD,a_07,i_07,kpD⟩,b_07⟩
 have C_05:qfq l.prog w K mg base cD "family_by" 1 ["self", "word"] (qij cD) _ _:=⟨qd6 F_05 T Z ,⟨a_05,i_05,k_05⟩,b_05⟩
 have C_02:qfq l.prog w K mg base cD "look_for_room" 1 ["self", "name"] (qlt cD) _ _:=⟨qcR F_02 T Z ,⟨a_02,i_02,k_02⟩,b_02⟩
 have C_08:qfq l.prog w K mg base cD "thing_of" 5 ["self", "kind", "word"] (qiU cD) _ _:=⟨qeG F_08 T Z C_14 C_37 C_05 C_28 C_35,⟨a_08,i_08,k_08⟩,b_08⟩
 have C_59:Cal l.prog w K mg base "made" 5 ["many", "deed", "things"] (qlG K) _ _:=⟨qpJ F_59 T C_19 C_56 C_51 C_46 C_57 C_29,W.mg_of X G a_59,k_59,b_59⟩
 have C_39:Cal l.prog w K mg base "answered" 5 ["words", "deed", "things"] (qd4 K) _ _:=⟨qiD F_39 T C_11 C_13 C_15 C_01 C_10 C_20 C_21 C_55 C_47 C_58 C_03 C_52 C_53,W.mg_of X G a_39,k_39,b_39⟩
 have C_40:qfq l.prog w K mg base cD "say" 6 ["self", "row"] (ql7 cD) _ _:=⟨qiS F_40 T Z C_38 C_39 C_08 C_02 C_59,⟨a_40,i_40,k_40⟩,b_40⟩
 have C_41:Cal l.prog w K mg base "_law_all" 7 ["_law_desk", "_law_rows"] (qh5 cD) _ _:=⟨qiO F_41 T Z C_40,W.mg_of X G a_41,k_41,b_41⟩
 have C_22:Cal l.prog w K mg base "_law_alike" 7 ["_law_desk", "_law_one", "_law_other"] (qdO cD) _ _:=⟨qgQ F_22 T Z C_40,W.mg_of X G a_22,k_22,b_22⟩
 have C_16:Cal l.prog w K mg base "_law_joined" 8 ["_law_desk"] (qfd cD) _ _:=⟨qfY F_16 T Z C_41 C_22,W.mg_of X G a_16,k_16,b_16⟩
 have C_23:Cal l.prog w K mg base "_law_fixed" 8 ["_law_desk", "_law_word"] (qg9 cD) _ _:=⟨qgm F_23 T Z C_22 C_41,W.mg_of X G a_23,k_23,b_23⟩
 exact qqG F_law T Z C_17 C_07 C_12 C_40 C_32 C_24 C_41 C_26 C_22 C_16 C_23
theorem walk {l:W.OpenLaw} {q:Program} {loose:List Str} {XP:(Str→Option Value)→Heap→Prop} {YP:World→Heap→Prop} {d:DefRec} {K:Params→W.Frag} (hn:l.most=some 63) (hdf:d.params.defaults=[])
   (hY:∀(w:World) (h:Heap),YP w h→(K w.params).In h)
   (F:∀(w:World) (mg:Str→Option Value) (fa:Addr) (h:Heap),(K w.params).In h→h.Ns mainGlobals mg→mg d.name=some (.ref fa) →
     ∃fd:FuncData,(∀(s:Shared) (u:Value),BindsTo s fd ⟨[u],[]⟩ [("_law_script",u)])∧∀base:Heap,(K w.params).In base→base.Ns mainGlobals mg→qa1 l.prog w (K w.params) mg base CX0 9 fa fd ["_law_script"] ((qkM (K w.params)))) :
   W.WalkO q loose XP YP l.row.toRowW d [] (fun f vs=>PySem.call f vs) :=
 L2.walk_of (n:=63) (k:=9) (x := "_law_script") (CX:=fun _=>CX0) (sp:=fun w=>(qkM (K w.params))) hn (by decide) hdf ⟨rfl,by decide,by decide⟩ hY F (fun _ _ a ns hl _ hS=>⟨_,rfl,a,ns,rfl,hS,hl,fun _=>rfl⟩) fun _ _ _ _ _ z=>z
end Zk56
namespace PySem.W.Fast
def tw17546973908656485924:=0
def tw2128151175952686360:=0
def tw5692668575010024543:=0
def tw1243939448038704065:=0
def tw3438053967440599485:=0
def tw4441377457449654502:=0
def tw8372415618220142137:=0
def tw3174036947944025031:=0
def tw11377543279571965341:=0
def tw611880645661579172:=0
def tw15713075249611049513:=0
def tw8163251007998566187:=0
def tw13787370456033263351:=0
def tw10109750438994159802:=0
def tw18300727757427151269:=0
def tw11143689418213057779:=0
def tw9758280552597279599:=0
def tw7497631558211555073:=0
def tw3640984366449176365:=0
def tw11755312368343483677:=0
def tw1980938926950357992:=0
def tw2486026624551268707:=0
def tw13707244154114632693:=0
def tw14278732381429753671:=0
def tw8167306793213396103:=0
def tw10243687896921990476:=0
def tw5194993550127199053:=0
def tw6473043605334605249:=0
def tw10704800955886544813:=0
def tw17418752459953761970:=0
def tw10766127128107738606:=0
def tw10479091326450132254:=0
def tw7709751440241228526:=0
def tw18136651202019997688:=0
def tw13130697758527406463:=0
def tw15711513983566103710:=0
def tw14007742721573962580:=0
def tw17174592087963128836:=0
def tw8004336611100478762:=0
def tw8049974978415063712:=0
def tw14298431480167428418:=0
def tw9252759268093190649:=0
def tw18311355609052427175:=0
def tw12796029303044047391:=0
def tw2616685042270119163:=0
def tw351333136139462089:=0
def tw5821367562308692175:=0
def tw5350485786800131570:=0
def tw9924819516956148906:=0
def tw7483741708116368455:=0
def tw17523787204920471705:=0
def tw8844034547781213373:=0
def tw3065007405696480893:=0
def tw12717125480237758123:=0
def tw7008312246935613752:=0
def tw479472808529085855:=0
def tw7977925366606998437:=0
def tw9288757273384634413:=0
def tw168417527532635579:=0
def tw13070724647340279590:=0
def tw3893202869751502086:=0
def tw3908139145880106933:=0
def tw8955945586530677808:=0
def tw5124921213449898630:=0
def tw12138491016391389631:=0
def tw16922234843642867386:=0
def tw8948591171308089921:=0
def tw14211349958183856740:=0
def tw1160144319343523227:=0
def tw16736765376029594929:=0
def tw1292097632452277832:=0
def tw2607859224292710209:=0
def tw3110276039688714610:=0
def tw2871475241078757054:=0
def tw1053535544769113154:=0
def tw5169894102665932075:=0
def tw12933465838533882078:=0
def tw12205120739764759880:=0
def tw18117682732181997589:=0
def tw4486572164618658954:=0
def tw15156228321458265014:=0
def tw7354386638981479800:=0
def tw9933711984558468125:=0
def tw7224183172702604689:=0
def tw2060179412141916283:=0
def tw8943143890464490051:=0
def tw17053398304424293308:=0
def tw11365933877360406526:=0
def tw10942147378798969899:=0
def tw10368063791022210728:=0
def tw17578797531315221334:=0
def tw5204250251388133850:=0
def tw14648975565601728722:=0
def tw15993237176784680834:=0
def tw12362813557633564069:=0
def tw1420328774440382105:=0
def tw17755628845655715765:=0
def tw11177629821987204898:=0
def tw4224887652900534081:=0
def tw17243773809502999263:=0
def tw13726970356574310943:=0
def tw7457549801516057552:=0
def tw784407488710544486:=0
def tw6746982605879283273:=0
def tw14190650022610445792:=0
def tw18190271492374402113:=0
def tw831062991343440225:=0
def tw16138631078966923795:=0
def tw12840640322969577464:=0
def tw9632812120354531476:=0
def tw5022640492415949799:=0
def tw17395544916124055285:=0
def tw11859448174219083909:=0
def tw5687213692578615538:=0
def tw13676296514539394483:=0
def tw13981098928450391039:=0
def tw4116085903812749470:=0
def tw10625327578367601292:=0
def tw9303145870658866357:=0
def tw15457056300223058717:=0
def tw13085059722730687268:=0
def tw16208537383322962459:=0
def tw12343549060511812916:=0
def tw18062872456504208555:=0
def tw8959099244059418167:=0
def tw17199116176737762468:=0
def tw13071668762767318109:=0
def tw14075706439163949455:=0
def tw9318565521368830349:=0
def tw1371642559372554268:=0
def tw7263219374957915803:=0
def tw12702343464829280378:=0
def tw3810376718513974831:=0
def tw490749178779319855:=0
def tw9794979658630516057:=0
def tw12019723240317848080:=0
def tw10265755418571715265:=0
def tw7093128237871062918:=0
def tw9218346410088180782:=0
def tw6271757424337309494:=0
def tw14094450960915192117:=0
def tw14758943421188929692:=0
def tw411741769718175064:=0
def tw4125203026864797125:=0
def tw2190729249969106552:=0
def tw1036776659980879034:=0
def tw10471975337091616860:=0
def tw3689427513696634968:=0
def tw10633665614604460519:=0
def tw7480659189070432874:=0
def tw10431670524431866134:=0
def tw5165262934308287838:=0
def tw6062040451898251026:=0
def tw18419176313136692430:=0
def tw15220623942070388274:=0
def tw17442673514328329100:=0
def tw2720768476310461283:=0
def tw6263155691744062420:=0
def tw6861789566584769084:=0
def tw15810510179385258411:=0
def tw13853891621526914419:=0
def tw13089514919275213111:=0
def tw5039504271941010868:=0
def tw16929950889919130280:=0
def tw1848803125131839139:=0
def tw12510479136238278361:=0
def tw7383286823601013441:=0
def tw1965693083100603359:=0
def tw8345628972938619567:=0
def tw15026764590254716472:=0
def tw9767087071789938648:=0
def tw5990946075869292161:=0
def tw7465230345100082763:=0
def tw5090882849694355680:=0
def tw16700819796836951361:=0
def tw5087103645475843353:=0
def tw17897041041689327789:=0
def tw2120731941315343511:=0
def tw18297871400386670759:=0
def tw6587899380595131310:=0
def tw12178367027584532932:=0
def tw8077232842532805229:=0
def tw12682961781024158541:=0
def tw8895307875265005780:=0
def tw9108381338014791247:=0
def tw630985549043627114:=0
def tw17775173750627381675:=0
def tw13644816955238610059:=0
def tw11293131239996300229:=0
def tw18257869548503693692:=0
def tw4281186444223745758:=0
def tw5199299558305974320:=0
def tw446735369233739756:=0
def tw12758790554810618728:=0
def tw16821269385845158061:=0
def tw4415291333589797206:=0
def tw17076691842163659704:=0
def tw8143844512225082170:=0
def tw9979045382875104644:=0
def tw14688800886909531688:=0
def tw15252832150374037060:=0
def tw3828956049575457627:=0
def tw9447318010750641435:=0
def tw15213744058116339739:=0
def tw9988324942976939408:=0
def tw16431692563548579702:=0
def tw16536935675168666073:=0
def tw2612184228443761165:=0
def tw4057869299088070473:=0
def tw1083601126616720049:=0
def tw4262686895989382493:=0
def tw6222438789787307908:=0
def tw15113032378110444104:=0
def tw1510728917579162731:=0
def tw9437657389216513101:=0
def tw3524166549692190503:=0
def tw16561346779164708627:=0
def tw6345604615701984095:=0
def tw773499852962773783:=0
def tw5992015969375883867:=0
def tw1332343589207637252:=0
def tw10957394062362208673:=0
def tw8796044995748745327:=0
def tw5796821811413041740:=0
def tw10143583548894927991:=0
def tw15619486783628295681:=0
def tw11574878584693303006:=0
def tw7127190230870068792:=0
def tw1059024436502388470:=0
def tw11399042210649809996:=0
def tw16837614884805398898:=0
def tw12382648712519603198:=0
def tw12455684235484526730:=0
def tw3509386309343956509:=0
def tw18178800158301664301:=0
def tw14151559414788333098:=0
def tw8000263505311562951:=0
def tw12461067974584768796:=0
def tw9903567044783794838:=0
def tw8465629249544056409:=0
def tw181496098951653547:=0
def tw18272464088613192356:=0
def tw6242686572267472678:=0
def tw4684282701429445759:=0
def tw4886817841679772484:=0
def tw4456036302112138589:=0
def tw13916582202710941668:=0
def tw3947025960415473241:=0
def tw7472693430824250204:=0
def tw11868963222761922427:=0
def tw8442867144198406714:=0
def tw11387073056481523640:=0
def tw15171690065016301879:=0
def tw13975257034471107710:=0
def tw9047638055176535320:=0
def tw17828774583940647783:=0
def tw3195782206136224762:=0
def tw9863734879605621676:=0
def tw603663560297962248:=0
def tw11004917820440574005:=0
def tw12745389074462107659:=0
def tw1822994562206690054:=0
def tw7861961980724646819:=0
def tw9496292372435425676:=0
def tw10382941508109363406:=0
def tw15602837121218716355:=0
def tw14177556022359929165:=0
def tw6566871680268978296:=0
def tw14635600223612974125:=0
def tw950357523574388160:=0
def tw13935381648466979670:=0
def tw9982895743949820917:=0
def tw1637672488712821935:=0
def tw15271864319918788794:=0
def tw13690062546056108554:=0
def tw14822935201274898072:=0
def tw9208795905432871382:=0
def tw187879960264711054:=0
def tw13048988328585529770:=0
def tw16379238221948431244:=0
def tw4861044685521799697:=0
def tw13460905369203357117:=0
def tw3937866903222225151:=0
def tw13903108144919983637:=0
def tw9696463718617152790:=0
def tw13968845439478333442:=0
def tw1848498094951760107:=0
def tw10096384129124852257:=0
def tw13066580324044495713:=0
def tw3978565489056747626:=0
def tw6209348676438364631:=0
def tw6942293929076267690:=0
def tw12783002124657386249:=0
def tw13146609267697593974:=0
def tw3195087732452161364:=0
def tw6655993110836237894:=0
def tw5044670646997268617:=0
def tw1002462194038689713:=0
def tw14549305607406783309:=0
def tw4150763900080738362:=0
def tw1844032729020297919:=0
def tw10631829979622930852:=0
def tw11138385367854339733:=0
def tw3009499374026979007:=0
def tw15620092467164561729:=0
def tw10969426987015548751:=0
def tw4903765016813203214:=0
def tw15091640059689110674:=0
def tw4891555232292294740:=0
def tw8510130100745377150:=0
def tw15408990374285941148:=0
def tw17723268699229329396:=0
def tw8502583991975839432:=0
def tw6908162637368562843:=0
def tw2354994114594219398:=0
def tw10630798146916373265:=0
def tw15104814011333950630:=0
def tw6738143331828696367:=0
def tw5555074833857643077:=0
def tw431141160567840478:=0
def tw16558176206733196981:=0
def tw8696765234687972901:=0
def tw15045226693364097099:=0
def tw4937470391898943054:=0
def tw13360259354833017091:=0
def tw5125477430743129346:=0
def tw3444860914262839712:=0
def tw9720111158621269493:=0
def tw13133449820371856720:=0
def tw17926034577967804000:=0
def tw6215117210212850920:=0
def tw2035712639666208323:=0
def tw16624497348277035209:=0
def tw13272744678073677973:=0
def tw15317791235848539344:=0
def tw8926787629454903586:=0
def tw4385190039623694861:=0
def tw10541133429982649014:=0
def tw2863521996330359837:=0
def tw2131657489099367336:=0
def tw5460879988200324680:=0
def tw2816707500222128592:=0
def tw17436717374224775155:=0
def tw9786280738216428183:=0
def tw10973558562165466784:=0
def tw8085798663613666164:=0
def tw2330418494200309210:=0
def tw5959683602153608053:=0
def tw585604055528441581:=0
def tw7111574410497372336:=0
def tw18291091062772326638:=0
def tw16161084130490197557:=0
def tw17368112504527953971:=0
def tw7776203033336231302:=0
def tw3376908933195128682:=0
def tw8224701287971508440:=0
def tw17420494485839020428:=0
def tw3553609185834012429:=0
def tw4096421367056627041:=0
def tw9409904738320581571:=0
def tw16893370143972778548:=0
def tw14385709255380839409:=0
def tw10456727157668398699:=0
def tw6729797656198920111:=0
def tw12297823197717254969:=0
def tw2736442626791788312:=0
def tw7927409115382447202:=0
def tw3337553144650404712:=0
def tw12541526126558393800:=0
def tw17226215869403124835:=0
def tw9592581283490041824:=0
def tw7965317118181887165:=0
def tw10915203996967357120:=0
def tw10113315209743740807:=0
def tw14564739812248748191:=0
def tw7813646012702171726:=0
def tw2626333957882145646:=0
def tw16858301159023469836:=0
def tw12135551930174133612:=0
def tw10338314459082179293:=0
def tw12032283249816181625:=0
def tw16347551804628557626:=0
def tw11851301475236675686:=0
def tw14797657130606008472:=0
def tw4950314099580632973:=0
def tw2162145022053217292:=0
def tw6676586115067031594:=0
def tw17511801084291713483:=0
def tw2958785152086494130:=0
def tw6345824757297472732:=0
def tw851987375222580176:=0
def tw4735176835544656885:=0
def tw7549738473553571979:=0
def tw8145456609593672003:=0
def tw10131173690262470725:=0
def tw17256563882218721420:=0
def tw13757495402702186965:=0
def tw8873408444586354260:=0
def tw17059196849065920950:=0
def tw14289815897427186771:=0
def tw15841117149450655290:=0
def tw7223110205128067030:=0
def tw6465195558663695206:=0
def tw11759292390630676224:=0
def tw6586083846255871954:=0
def tw4469961271599713483:=0
def tw5926699936516801310:=0
def tw3913552949698025898:=0
def tw17096458913981159737:=0
def tw15017249822354408621:=0
def tw6265147248667445807:=0
def tw939451615928960168:=0
def tw3535884968895484787:=0
def tw10984756278086579350:=0
def tw1200480083270785234:=0
def tw8648443577241899810:=0
def tw7826415487638956997:=0
def tw11217035791022010049:=0
def tw5686024832255377114:=0
def tw4486345204412429825:=0
def tw8858885817683105393:=0
def tw7459481047912018603:=0
def tw3789257120788605968:=0
def tw12234808612414580613:=0
def tw2436633916945789850:=0
def tw1131357545376899163:=0
def tw584203324734721612:=0
def tw946465385023953217:=0
def tw3650808929797721407:=0
def tw15521842427085990983:=0
def tw12306150744332688598:=0
def tw17734405588382246996:=0
def tw575417396515217900:=0
def tw10302502040264480938:=0
def tw12868694150438951678:=0
def tw5853008322611690740:=0
def tw3676555837460820503:=0
def tw14325069864886893224:=0
def tw11943561878183464737:=0
def tw9017048274078212738:=0
def tw14422094328501617027:=0
def tw6601533124559897521:=0
def tw1510228438869641741:=0
def tw7505592588768393510:=0
def tw8068453498125630699:=0
def tw4244949133783354578:=0
def tw3040863883208017325:=0
def tw13648714693015125558:=0
def tw6680980040819955849:=0
def tw11473978118055265865:=0
def tw15808578088234390281:=0
def tw8639528254904725589:=0
def tw16691452928786802617:=0
def tw17484864224881344106:=0
def tw7373799426165605209:=0
def tw7088996290997783245:=0
def tw3951652372302579700:=0
def tw11542222446835536001:=0
def tw8683958033274632128:=0
def tw6798552569634945125:=0
def tw17956345514971154029:=0
def tw16951499982343573187:=0
def tw18239318403831210047:=0
def tw11565275690788515251:=0
def tw8860035227282426520:=0
def tw10066718761771941011:=0
def tw13095932868040721441:=0
def tw9265323425451326624:=0
def tw12083859385175504671:=0
def tw8162904605926092146:=0
def tw9280351457710151734:=0
def tw2972740663253893073:=0
def tw7176114841375771544:=0
def tw16539111058984650812:=0
def tw11905837562248275725:=0
def tw3039219297162420181:=0
def tw11938355882818329115:=0
def tw7706962022195861253:=0
def tw17478895105693998126:=0
def tw17552466024279246056:=0
def tw8493740833399325316:=0
def tw4012140852622304730:=0
def tw10830888527821120439:=0
def tw2566862509507061299:=0
def tw3800241711594801793:=0
def tw12930728530489869135:=0
def tw7127581572007303102:=0
def tw2963826001143538651:=0
def tw8306574837118933554:=0
def tw17528995966709158787:=0
def tw8359006822531621168:=0
def tw15402908110732162931:=0
def tw5679939345693698488:=0
def tw16957730711522408912:=0
def tw16116657819991688890:=0
def tw17767956311640006437:=0
def tw6447402140677223972:=0
def tw4465416617748130260:=0
def tw8214838370255052230:=0
def tw14734248103786747068:=0
def tw10663951158115582881:=0
def tw17122186364894769254:=0
def tw11689988421327922770:=0
def tw11543555995590118808:=0
def tw17543033475957300311:=0
def tw12214024067252428012:=0
def tw12810940957323961756:=0
def tw17391276137282999978:=0
def tw16770214813067398043:=0
def tw6475639036675481061:=0
def tw4775926033964597403:=0
def tw3037774975533824440:=0
def tw11583465067377690616:=0
def tw8086478375838055280:=0
def tw4082599147096641235:=0
def tw4216036169523082373:=0
def tw3491158263383818085:=0
def tw4670401120662894695:=0
def tw6306476304409052799:=0
def tw16601565717530583804:=0
end PySem.W.Fast
open PySem PySem.W PyProof.Rows
set_option maxRecDepth 100000 in
set_option maxHeartbeats 0 in
theorem PySem.Challenge.cw_allhits_k56_whole_duals_at_a_desk_holds : PySem.Challenge.rw_allhits_k56_whole_duals_at_a_desk.Holds := by
 w_on;o_law;k_head;(case hw=>w_witness2)
 k_fill
 refine Zk56.walk (l:=PySem.Challenge.rw_allhits_k56_whole_duals_at_a_desk) rfl rfl (fun w h Y=>W.kIn_of Y) ?F
 case F =>
   intro w mg fa h KX G hmg
   refine' Zk56.all_mk KX G hmg ?a_31 ?l_31 ?c_31 ?k_31 ?a_24 ?l_24 ?c_24 ?k_24 ?a_32 ?l_32 ?c_32 ?k_32 ?a_25 ?l_25 ?c_25 ?k_25 ?a_12 ?l_12 ?c_12 ?k_12 ?a_17 ?l_17 ?c_17 ?k_17 ?a_06 ?l_06 ?c_06 ?k_06 ?a_26 ?l_26 ?c_26 ?k_26 ?a_43 ?l_43 ?c_43 ?k_43 ?a_27 ?l_27 ?c_27 ?k_27 ?a_33 ?l_33 ?c_33 ?k_33 ?a_44 ?l_44 ?c_44 ?k_44 ?a_45 ?l_45 ?c_45 ?k_45 ?a_42 ?l_42 ?c_42 ?k_42 ?a_18 ?l_18 ?c_18 ?k_18 ?a_28 ?l_28 ?c_28 ?k_28 ?a_34 ?l_34 ?c_34 ?k_34 ?a_13 ?l_13 ?c_13 ?k_13 ?a_35 ?l_35 ?c_35 ?k_35 ?a_14 ?l_14 ?c_14 ?k_14 ?a_48 ?l_48 ?c_48 ?k_48 ?a_49 ?l_49 ?c_49 ?k_49 ?a_54 ?l_54 ?c_54 ?k_54 ?a_55 ?l_55 ?c_55 ?k_55 ?a_50 ?l_50 ?c_50 ?k_50 ?a_51 ?l_51 ?c_51 ?k_51 ?a_09 ?l_09 ?c_09 ?k_09 ?a_56 ?l_56 ?c_56 ?k_56 ?a_29 ?l_29 ?c_29 ?k_29 ?a_19 ?l_19 ?c_19 ?k_19 ?a_46 ?l_46 ?c_46 ?k_46 ?a_57 ?l_57 ?c_57 ?k_57 ?a_00 ?l_00 ?c_00 ?k_00 ?a_47 ?l_47 ?c_47 ?k_47 ?a_04 ?l_04 ?c_04 ?k_04 ?a_58 ?l_58 ?c_58 ?k_58 ?a_36 ?l_36 ?c_36 ?k_36 ?a_30 ?l_30 ?c_30 ?k_30 ?a_52 ?l_52 ?c_52 ?k_52 ?a_10 ?l_10 ?c_10 ?k_10 ?a_01 ?l_01 ?c_01 ?k_01 ?a_15 ?l_15 ?c_15 ?k_15 ?a_53 ?l_53 ?c_53 ?k_53 ?a_20 ?l_20 ?c_20 ?k_20 ?a_21 ?l_21 ?c_21 ?k_21 ?a_11 ?l_11 ?c_11 ?k_11 ?a_03 ?l_03 ?c_03 ?k_03 ?a_37 ?l_37 ?c_37 ?k_37 ?a_38 ?l_38 ?c_38 ?k_38 ?a_07 ?i_07 ?l_07 ?c_07 ?k_07 ?a_05 ?i_05 ?l_05 ?c_05 ?k_05 ?a_02 ?i_02 ?l_02 ?c_02 ?k_02 ?a_08 ?i_08 ?l_08 ?c_08 ?k_08 ?a_59 ?l_59 ?c_59 ?k_59 ?a_39 ?l_39 ?c_39 ?k_39 ?a_40 ?i_40 ?l_40 ?c_40 ?k_40 ?a_41 ?l_41 ?c_41 ?k_41 ?a_22 ?l_22 ?c_22 ?k_22 ?a_16 ?l_16 ?c_16 ?k_16 ?a_23 ?l_23 ?c_23 ?k_23 ?a_law ?l_law ?c_law ?k_law ?z_isinstance ?z_int ?z_bool ?z_len ?z_range ?z_sorted ?z_set ?z_list ?z_str ?z_all ?z_zip ?v_MOST_SETS ?v_MOST_LETTERS ?v_MOST_NAMES ?v_NO_SETS ?v_NO_NAMES ?v_MOST_KEPT ?gD ?gW ?lW ?nW ?eW1 ?lW1 ?eW2 ?lW2 ?eW3 ?lW3 ?eW4 ?lW4 ?eW5 ?lW5 ?eW6 ?lW6 ?eW7 ?lW7 ?eW8 ?lW8 ?eW9 ?lW9 ?eW10 ?lW10 ?eW11 ?lW11 ?eW12 ?lW12 ?eW13 ?lW13 ?eW14 ?lW14 ?eW15 ?lW15 ?pgD ?hdD ?poD ?saD ?nwD ?nkD ?mkD ?kpD
   case gD=>k_is
   case gW=>k_is
   case lW=>k_is
   case a_31=>k_is
   case l_31=>k_is
   case c_31=>k_is
   case k_31=>k_is
   case a_24=>k_is
   case l_24=>k_is
   case c_24=>k_is
   case k_24=>k_is
   case a_32=>k_is
   case l_32=>k_is
   case c_32=>k_is
   case k_32=>k_is
   case a_25=>k_is
   case l_25=>k_is
   case c_25=>k_is
   case k_25=>k_is
   case a_12=>k_is
   case l_12=>k_is
   case c_12=>k_is
   case k_12=>k_is
   case a_17=>k_is
   case l_17=>k_is
   case c_17=>k_is
   case k_17=>k_is
   case a_06=>k_is
   case l_06=>k_is
   case c_06=>k_is
   case k_06=>k_is
   case a_26=>k_is
   case l_26=>k_is
   case c_26=>k_is
   case k_26=>k_is
   case a_43=>k_is
   case l_43=>k_is
   case c_43=>k_is
   case k_43=>k_is
   case a_27=>k_is
   case l_27=>k_is
   case c_27=>k_is
   case k_27=>k_is
   case a_33=>k_is
   case l_33=>k_is
   case c_33=>k_is
   case k_33=>k_is
   case a_44=>k_is
   case l_44=>k_is
   case c_44=>k_is
   case k_44=>k_is
   case a_45=>k_is
   case l_45=>k_is
   case c_45=>k_is
   case k_45=>k_is
   case a_42=>k_is
   case l_42=>k_is
   case c_42=>k_is
   case k_42=>k_is
   case a_18=>k_is
   case l_18=>k_is
   case c_18=>k_is
   case k_18=>k_is
   case a_28=>k_is
   case l_28=>k_is
   case c_28=>k_is
   case k_28=>k_is
   case a_34=>k_is
   case l_34=>k_is
   case c_34=>k_is
   case k_34=>k_is
   case a_13=>k_is
   case l_13=>k_is
   case c_13=>k_is
   case k_13=>k_is
   case a_35=>k_is
   case l_35=>k_is
   case c_35=>k_is
   case k_35=>k_is
   case a_14=>k_is
   case l_14=>k_is
   case c_14=>k_is
   case k_14=>k_is
   case a_48=>k_is
   case l_48=>k_is
   case c_48=>k_is
   case k_48=>k_is
   case a_49=>k_is
   case l_49=>k_is
   case c_49=>k_is
   case k_49=>k_is
   case a_54=>k_is
   case l_54=>k_is
   case c_54=>k_is
   case k_54=>k_is
   case a_55=>k_is
   case l_55=>k_is
   case c_55=>k_is
   case k_55=>k_is
   case a_50=>k_is
   case l_50=>k_is
   case c_50=>k_is
   case k_50=>k_is
   case a_51=>k_is
   case l_51=>k_is
   case c_51=>k_is
   case k_51=>k_is
   case a_09=>k_is
   case l_09=>k_is
   case c_09=>k_is
   case k_09=>k_is
   case a_56=>k_is
   case l_56=>k_is
   case c_56=>k_is
   case k_56=>k_is
   case a_29=>k_is
   case l_29=>k_is
   case c_29=>k_is
   case k_29=>k_is
   case a_19=>k_is
   case l_19=>k_is
   case c_19=>k_is
   case k_19=>k_is
   case a_46=>k_is
   case l_46=>k_is
   case c_46=>k_is
   case k_46=>k_is
   case a_57=>k_is
   case l_57=>k_is
   case c_57=>k_is
   case k_57=>k_is
   case a_00=>k_is
   case l_00=>k_is
   case c_00=>k_is
   case k_00=>k_is
   case a_47=>k_is
   case l_47=>k_is
   case c_47=>k_is
   case k_47=>k_is
   case a_04=>k_is
   case l_04=>k_is
   case c_04=>k_is
   case k_04=>k_is
   case a_58=>k_is
   case l_58=>k_is
   case c_58=>k_is
   case k_58=>k_is
   case a_36=>k_is
   case l_36=>k_is
   case c_36=>k_is
   case k_36=>k_is
   case a_30=>k_is
   case l_30=>k_is
   case c_30=>k_is
   case k_30=>k_is
   case a_52=>k_is
   case l_52=>k_is
   case c_52=>k_is
   case k_52=>k_is
   case a_10=>k_is
   case l_10=>k_is
   case c_10=>k_is
   case k_10=>k_is
   case a_01=>k_is
   case l_01=>k_is
   case c_01=>k_is
   case k_01=>k_is
   case a_15=>k_is
   case l_15=>k_is
   case c_15=>k_is
   case k_15=>k_is
   case a_53=>k_is
   case l_53=>k_is
   case c_53=>k_is
   case k_53=>k_is
   case a_20=>k_is
   case l_20=>k_is
   case c_20=>k_is
   case k_20=>k_is
   case a_21=>k_is
   case l_21=>k_is
   case c_21=>k_is
   case k_21=>k_is
   case a_11=>k_is
   case l_11=>k_is
   case c_11=>k_is
   case k_11=>k_is
   case a_03=>k_is
   case l_03=>k_is
   case c_03=>k_is
   case k_03=>k_is
   case a_37=>k_is
   case l_37=>k_is
   case c_37=>k_is
   case k_37=>k_is
   case a_38=>k_is
   case l_38=>k_is
   case c_38=>k_is
   case k_38=>k_is
   case a_07=>k_is
   case i_07=>k_is
   case l_07=>k_is
   case c_07=>k_is
   case k_07=>k_is
   case a_05=>k_is
   case i_05=>k_is
   case l_05=>k_is
   case c_05=>k_is
   case k_05=>k_is
   case a_02=>k_is
   case i_02=>k_is
   case l_02=>k_is
   case c_02=>k_is
   case k_02=>k_is
   case a_08=>k_is
   case i_08=>k_is
   case l_08=>k_is
   case c_08=>k_is
   case k_08=>k_is
   case a_59=>k_is
   case l_59=>k_is
   case c_59=>k_is
   case k_59=>k_is
   case a_39=>k_is
   case l_39=>k_is
   case c_39=>k_is
   case k_39=>k_is
   case a_40=>k_is
   case i_40=>k_is
   case l_40=>k_is
   case c_40=>k_is
   case k_40=>k_is
   case a_41=>k_is
   case l_41=>k_is
   case c_41=>k_is
   case k_41=>k_is
   case a_22=>k_is
   case l_22=>k_is
   case c_22=>k_is
   case k_22=>k_is
   case a_16=>k_is
   case l_16=>k_is
   case c_16=>k_is
   case k_16=>k_is
   case a_23=>k_is
   case l_23=>k_is
   case c_23=>k_is
   case k_23=>k_is
   case a_law=>k_is
   case l_law=>k_is
   case c_law=>k_is
   case k_law=>k_is
   case z_isinstance=>k_is
   case z_int=>k_is
   case z_bool=>k_is
   case z_len=>k_is
   case z_range=>k_is
   case z_sorted=>k_is
   case z_set=>k_is
   case z_list=>k_is
   case z_str=>k_is
   case z_all=>k_is
   case z_zip=>k_is
   case v_MOST_SETS=>k_is
   case v_MOST_LETTERS=>k_is
   case v_MOST_NAMES=>k_is
   case v_NO_SETS=>k_is
   case v_NO_NAMES=>k_is
   case v_MOST_KEPT=>k_is
   case nW=>rfl
   case eW1=>rfl
   case lW1=>k_is
   case eW2=>rfl
   case lW2=>k_is
   case eW3=>rfl
   case lW3=>k_is
   case eW4=>rfl
   case lW4=>k_is
   case eW5=>rfl
   case lW5=>k_is
   case eW6=>rfl
   case lW6=>k_is
   case eW7=>rfl
   case lW7=>k_is
   case eW8=>rfl
   case lW8=>k_is
   case eW9=>rfl
   case lW9=>k_is
   case eW10=>rfl
   case lW10=>k_is
   case eW11=>rfl
   case lW11=>k_is
   case eW12=>rfl
   case lW12=>k_is
   case eW13=>rfl
   case lW13=>k_is
   case eW14=>rfl
   case lW14=>k_is
   case eW15=>rfl
   case lW15=>k_is
   case pgD=>k_is
   case hdD=>k_is
   case poD=>k_is
   case saD=>k_is
   case nwD=>k_is
   case nkD=>k_is
   case mkD=>k_is
   case kpD=>k_is
