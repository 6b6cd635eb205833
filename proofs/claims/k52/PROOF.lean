import PyProof.Rows.All
import Wide.All
import OpenK.AllK
import Wide.FinOn
import Lean
import PyProof.EqAt
import PyProof.EqKinds
import PyProof.TupleCall
import PyProof.CompFree
import PyProof.CollectWalk
import PyProof.Rows.SetFrom
import PyProof.Rows.SortShell
import PySem.Challenge.RW_allhits_k52_whole_hits_by_text
set_option Elab.async false
set_option linter.all false
set_option maxRecDepth 100000
namespace Fam
def sub (b a:Nat):Prop:=a&&&b=b
instance (b a:Nat):Decidable (sub b a):=inferInstanceAs (Decidable (a&&&b=b))
theorem qcN {b a:Nat}:sub b a↔∀k,b.testBit k=true→a.testBit k=true:=by
 unfold sub
 constructor
 · intro h k hk
   rw [←h,Nat.testBit_and,Bool.and_eq_true] at hk
   exact hk.1
 · intro h
   refine Nat.eq_of_testBit_eq fun k=>?_
   rw [Nat.testBit_and]
   cases hb:b.testBit k
   · simp
   · simp [h k hb]
theorem qeb (a:Nat):sub a a:=Nat.and_self a
theorem qcI {a b c:Nat} (h1:sub a b) (h2:sub b c):sub a c:=qcN.mpr fun k hk=>qcN.mp h2 k (qcN.mp h1 k hk)
theorem qhU {a b:Nat} (h:sub b a):b≤a:=by
 have:a&&&b≤a:=Nat.and_le_left
 rw [h] at this
 exact this
theorem qhg {a b:Nat} (h1:sub a b) (h2:sub b a):a=b:=Nat.le_antisymm (qhU h1) (qhU h2)
def mt (a b:Nat):Prop:=a&&&b≠0
instance (b a:Nat):Decidable (mt b a):=inferInstanceAs (Decidable (b&&&a≠0))
theorem mt_iff {a b:Nat}:mt a b↔∃k,a.testBit k=true∧b.testBit k=true:=by
 unfold mt
 constructor
 · intro h
   obtain ⟨k,hk⟩:=Nat.exists_testBit_of_ne_zero h
   rw [Nat.testBit_and,Bool.and_eq_true] at hk
   exact ⟨k,hk⟩
 · rintro ⟨k,h1,h2⟩ e
   have:=congrArg (fun z=>Nat.testBit z k) e
   simp [Nat.testBit_and,h1,h2] at this
theorem qc5 {a b:Nat}:mt a b↔mt b a:=by unfold mt;rw [Nat.and_comm]
theorem qlG {a a' b:Nat} (h:sub a a') (q:mt a b):mt a' b:=by
 obtain ⟨k,h1,h2⟩:=mt_iff.mp q
 exact mt_iff.mpr ⟨k,qcN.mp h k h1,h2⟩
theorem ql9 {n a k:Nat} (h:a<2^n) (hk:n≤k):a.testBit k=false:=Nat.testBit_lt_two_pow (Nat.lt_of_lt_of_le h (Nat.pow_le_pow_right (by decide) hk))
theorem qll {n a k:Nat} (h:a<2^n) (hk:a.testBit k=true):k<n:=by
 rcases Nat.lt_or_ge k n with z | z
 · exact z
 · rw [ql9 h z] at hk;cases hk
def rst (m a:Nat):Nat:=2^m-(a+1)
theorem qfW {m a:Nat} (h:a<2^m) (k:Nat):(rst m a).testBit k=(decide (k<m)&&!a.testBit k):=Nat.testBit_two_pow_sub_succ h k
theorem rst_lt (m a:Nat):rst m a<2^m:=by
 have:=Nat.two_pow_pos m
 unfold rst
 omega
theorem rst_rst {m a:Nat} (h:a<2^m):rst m (rst m a)=a:=by unfold rst;omega
theorem qgO {m a b:Nat} (ha:a<2^m) (hb:b<2^m):sub a (rst m b)↔¬mt a b:=by
 rw [qcN,mt_iff]
 constructor
 · rintro h ⟨k,h1,h2⟩
   have:=h k h1
   rw [qfW hb,h2] at this
   simp at this
 · intro h k hk
   rw [qfW hb]
   have hm:=qll ha hk
   cases hb':b.testBit k
   · simp [hm]
   · exact absurd ⟨k,hk,hb'⟩ h
def less (a k:Nat):Nat:=a-2^k
theorem qlK {a k:Nat} (h:a.testBit k=true):a=(a ^^^ 2^k)+2^k:=by
 have e:(a ^^^ 2^k)&&&2^k=0:=by
   refine Nat.eq_of_testBit_eq fun j=>?_
   rw [Nat.testBit_and,Nat.testBit_xor,Nat.testBit_two_pow,Nat.zero_testBit]
   by_cases c:k=j
   · subst c;simp [h]
   · simp [c]
 have key:∀n x y:Nat,x<2^n→x&&&y=0→x+y=x|||y:=by
   intro n
   induction n with
   | zero =>
     intro x y hx _
     have:x=0:=by omega
     subst this
     simp
   | succ n ih =>
     intro x y hx h
     have q:=ih (x/2) (y/2) (by rw [Nat.pow_succ] at hx;omega) (by rw [←Nat.and_div_two,h])
     have e1:(x|||y)/2=x/2|||y/2:=Nat.or_div_two
     have m2:x%2=0∨y%2=0:=by
       have:=congrArg (fun z=>Nat.testBit z 0) h
       simp only [Nat.testBit_and,Nat.testBit_zero,Nat.zero_testBit] at this
       rcases Nat.mod_two_eq_zero_or_one x with z1 | z1<;>rcases Nat.mod_two_eq_zero_or_one y with z2 | z2<;>simp [z1,z2] at this ⊢
     have m1:(x|||y)%2=x%2+y%2:=by
       have:=Nat.testBit_or x y 0
       simp only [Nat.testBit_zero] at this
       rcases Nat.mod_two_eq_zero_or_one (x|||y) with z | z<;>rcases Nat.mod_two_eq_zero_or_one x with z1 | z1<;>rcases Nat.mod_two_eq_zero_or_one y with z2 | z2<;>simp [z,z1,z2] at this m2 ⊢
     rw [←e1] at q
     omega
 have:=key (a ^^^ 2^k) (a ^^^ 2^k) (2^k) Nat.lt_two_pow_self e
 rw [this]
 refine Nat.eq_of_testBit_eq fun j=>?_
 rw [Nat.testBit_or,Nat.testBit_xor,Nat.testBit_two_pow]
 by_cases c:k=j
 · subst c;simp [h]
 · simp [c]
theorem less_bit {a k:Nat} (h:a.testBit k=true) (j:Nat):(less a k).testBit j=(a.testBit j&&decide (j≠k)):=by
 have e:less a k=a ^^^ 2^k:=by
   have:=qlK h
   unfold less
   omega
 rw [e,Nat.testBit_xor,Nat.testBit_two_pow]
 by_cases c:k=j
 · subst c;simp [h]
 · simp [c,Ne.symm c]
theorem qo5 {a k:Nat} (h:a.testBit k=true):less a k<a:=by
 have:=qlK h
 have:=Nat.two_pow_pos k
 unfold less
 omega
theorem qjp {a k:Nat} (h:a.testBit k=true):sub (less a k) a:=qcN.mpr fun j hj=>by
 rw [less_bit h,Bool.and_eq_true] at hj
 exact hj.1
theorem qmI {a b k:Nat} (h:sub b a) (hk:a.testBit k=true) (hb:b.testBit k=false):sub b (less a k):=qcN.mpr fun j hj=>by
 rw [less_bit hk,qcN.mp h j hj,Bool.true_and,decide_eq_true_eq]
 intro e
 rw [e,hb] at hj
 cases hj
theorem qlg {a b:Nat} (h:sub b a):b=a∨∃k,a.testBit k=true∧b.testBit k=false∧sub b (less a k):=by
 by_cases c:∃k,a.testBit k=true∧b.testBit k=false
 · obtain ⟨k,h1,h2⟩:=c
   exact .inr ⟨k,h1,h2,qmI h h1 h2⟩
 · left
   refine Nat.eq_of_testBit_eq fun k=>?_
   cases hb:b.testBit k with
   | true=>exact (qcN.mp h k hb).symm
   | false =>
     cases ha:a.testBit k with
     | false=>rfl
     | true=>exact absurd ⟨k,ha,hb⟩ c
def pick (P:Nat→Bool) (L:List Nat):List Nat:=L.foldl (fun found a=>if (!(found.any fun b=>decide (sub b a))&&P a)=true then found++[a] else found) []
def qfR (P:Nat→Bool) (L:List Nat) (a:Nat):Prop:=P a=true∧∀b∈L,P b=true→sub b a→b=a
instance (P:Nat→Bool) (L:List Nat) (a:Nat):Decidable (qfR P L a):=inferInstanceAs (Decidable (_∧_))
theorem qdK (P:Nat→Bool) (L:List Nat):∀(n b:Nat),b≤n→b∈L→P b=true→∃c∈L,qfR P L c∧sub c b
 | n,b,hn,hb,hP=>by
   by_cases c:∃d∈L,P d=true∧sub d b∧d≠b
   · obtain ⟨d,hd,hPd,hs,hne⟩:=c
     have hlt:d<b:=Nat.lt_of_le_of_ne (qhU hs) hne
     match n with
     | 0=>omega
     | n+1 =>
       obtain ⟨e,he,hm,hse⟩:=qdK P L n d (by omega) hd hPd
       exact ⟨e,he,hm,qcI hse hs⟩
   · refine ⟨b,hb,⟨hP,fun d hd hPd hs=>?_⟩,qeb b⟩
     by_cases e:d=b
     · exact e
     · exact absurd ⟨d,hd,hPd,hs,e⟩ c
theorem qjt {p:List Nat→Prop} (h0:p []) (h1:∀L a,p L→p (L++[a])) (L:List Nat):p L:=by
 have:∀M:List Nat,p M.reverse:=by
   intro M
   induction M with
   | nil=>exact h0
   | cons a M ih=>rw [List.reverse_cons];exact h1 _ _ ih
 have:=this L.reverse
 rwa [List.reverse_reverse] at this
theorem pick_snoc (P:Nat→Bool) (L:List Nat) (a:Nat):pick P (L++[a])=if (!((pick P L).any fun b=>decide (sub b a))&&P a)=true then pick P L++[a] else pick P L:=by
 unfold pick
 rw [List.foldl_append]
 rfl
theorem qle (P:Nat→Bool) (L:List Nat) (hL:L.Pairwise (· < ·)):pick P L=L.filter fun a=>decide (qfR P L a):=by
 revert hL
 refine qjt (p:=fun L=>L.Pairwise (· < ·)→pick P L=L.filter fun a=>decide (qfR P L a)) (fun _=>rfl) (fun L a ih hL=>?_) L
 obtain ⟨hL1,_,hlt⟩:=List.pairwise_append.mp hL
 have hlt:∀x∈L,x<a:=fun x hx=>hlt x hx a (by simp)
 have ih:=ih hL1
 have e1:L.filter (fun x=>decide (qfR P (L++[a]) x))=L.filter fun x=>decide (qfR P L x):=by
   refine List.filter_congr fun x hx=>?_
   rw [decide_eq_decide]
   constructor
   · rintro ⟨h1,h2⟩
     exact ⟨h1,fun b hb=>h2 b (List.mem_append_left _ hb)⟩
   · rintro ⟨h1,h2⟩
     refine ⟨h1,fun b hb hP hs=>?_⟩
     rcases List.mem_append.mp hb with z | z
     · exact h2 b z hP hs
     · have:b=a:=by simpa using z
       subst this
       have:=qhU hs
       have:=hlt x hx
       omega
 rw [pick_snoc,List.filter_append,e1,←ih]
 have key:(!((pick P L).any fun b=>decide (sub b a))&&P a)=decide (qfR P (L++[a]) a):=by
   rw [Bool.eq_iff_iff,Bool.and_eq_true,Bool.not_eq_true',decide_eq_true_eq]
   constructor
   · rintro ⟨h1,h2⟩
     refine ⟨h2,fun b hb hP hs=>?_⟩
     rcases List.mem_append.mp hb with z | z
     · exfalso
       obtain ⟨c,hc,hm,hsc⟩:=qdK P L b b (Nat.le_refl _) z hP
       have hin:c∈pick P L:=by rw [ih];exact List.mem_filter.mpr ⟨hc,decide_eq_true hm⟩
       have:=List.any_eq_false.mp h1 c hin
       exact this (decide_eq_true (qcI hsc hs))
     · simpa using z
   · rintro ⟨h1,h2⟩
     refine ⟨?_,h1⟩
     rw [List.any_eq_false]
     intro c hc hd
     rw [ih] at hc
     obtain ⟨c1,c2⟩:=List.mem_filter.mp hc
     have:=h2 c (List.mem_append_left _ c1) (of_decide_eq_true c2).1 (of_decide_eq_true hd)
     have:=hlt c c1
     omega
 rw [key]
 by_cases c:qfR P (L++[a]) a
 · rw [if_pos (decide_eq_true c)]
   simp [c]
 · rw [if_neg (by simpa using c)]
   simp [c]
theorem qeU {P:Nat→Bool} {L:List Nat} (hL:L.Pairwise (· < ·)) {a:Nat}:a∈pick P L↔a∈L∧qfR P L a:=by
 rw [qle P L hL,List.mem_filter,decide_eq_true_eq]
theorem qc2 {P:Nat→Bool} {L:List Nat} (hL:L.Pairwise (· < ·)):(pick P L).Pairwise (· < ·):=by
 rw [qle P L hL]
 exact hL.sublist List.filter_sublist
theorem pick_len (P:Nat→Bool) (L:List Nat):(pick P L).length≤L.length:=by
 refine qjt (p:=fun L=>(pick P L).length≤L.length) (Nat.le_refl _) (fun L a ih=>?_) L
 rw [pick_snoc]
 split
 · simp;exact ih
 · simp;omega
theorem rise_ext:∀{a b:List Nat},a.Pairwise (· < ·)→b.Pairwise (· < ·)→(∀x,x∈a↔x∈b)→a=b
 | [],[],_,_,_=>rfl
 | [],y::b,_,_,h=>absurd ((h y).mpr List.mem_cons_self) (by simp)
 | x::a,[],_,_,h=>absurd ((h x).mp List.mem_cons_self) (by simp)
 | x::a,y::b,ha,hb,h=>by
   obtain ⟨a1,a2⟩:=List.pairwise_cons.mp ha
   obtain ⟨b1,b2⟩:=List.pairwise_cons.mp hb
   have e:x=y:=by
     rcases List.mem_cons.mp ((h x).mp List.mem_cons_self) with z | z
     · exact z
     · rcases List.mem_cons.mp ((h y).mpr List.mem_cons_self) with q | q
       · exact q.symm
       · have:=b1 x z
         have:=a1 y q
         omega
   subst e
   congr 1
   refine rise_ext a2 b2 fun z=>?_
   constructor
   · intro hz
     rcases List.mem_cons.mp ((h z).mp (List.mem_cons_of_mem _ hz)) with q | q
     · have:=a1 z hz;omega
     · exact q
   · intro hz
     rcases List.mem_cons.mp ((h z).mpr (List.mem_cons_of_mem _ hz)) with q | q
     · have:=b1 z hz;omega
     · exact q
def hitP (fs:List Nat) (a:Nat):Bool:=fs.all fun b=>decide (mt a b)
theorem hitP_iff {fs:List Nat} {a:Nat}:hitP fs a=true↔∀b∈fs,mt a b:=by
 unfold hitP
 rw [List.all_eq_true]
 simp only [decide_eq_true_eq]
theorem qhR {fs:List Nat} {a b:Nat} (h:sub b a) (q:hitP fs b=true):hitP fs a=true:=hitP_iff.mpr fun c hc=>qlG h (hitP_iff.mp q c hc)
def hits (m:Nat) (fs:List Nat):List Nat:=pick (hitP fs) (List.range (2^m))
theorem mem_hits {m:Nat} {fs:List Nat} {a:Nat}:a∈hits m fs↔a<2^m∧hitP fs a=true∧∀b,b<2^m→hitP fs b=true→sub b a→b=a:=by
 unfold hits
 rw [qeU List.pairwise_lt_range,List.mem_range]
 unfold qfR
 simp only [List.mem_range]
theorem hits_rise (m:Nat) (fs:List Nat):(hits m fs).Pairwise (· < ·):=qc2 List.pairwise_lt_range
theorem qgB {m:Nat} {fs:List Nat} {a:Nat} (ha:a<2^m) (h:hitP fs a=true):∃c∈hits m fs,sub c a:=by
 obtain ⟨c,hc,hm,hs⟩:=qdK (hitP fs) (List.range (2^m)) a a (Nat.le_refl _) (List.mem_range.mpr ha) h
 exact ⟨c,(qeU List.pairwise_lt_range).mpr ⟨hc,hm⟩,hs⟩
theorem qnI {m a b:Nat} (h:sub b a) (ha:a<2^m):b<2^m:=Nat.lt_of_le_of_lt (qhU h) ha
theorem hit_less {m:Nat} {fs:List Nat} {a:Nat} (ha:a<2^m):a∈hits m fs↔hitP fs a=true∧∀k,a.testBit k=true→hitP fs (less a k)=false:=by
 rw [mem_hits]
 constructor
 · rintro ⟨_,h1,h2⟩
   refine ⟨h1,fun k hk=>?_⟩
   cases hp:hitP fs (less a k) with
   | false=>rfl
   | true =>
     have:=h2 (less a k) (qnI (qjp hk) ha) hp (qjp hk)
     have:=qo5 hk
     omega
 · rintro ⟨h1,h2⟩
   refine ⟨ha,h1,fun b hb hp hs=>?_⟩
   rcases qlg hs with e | ⟨k,hk,_,hl⟩
   · exact e
   · have:=qhR hl hp
     rw [h2 k hk] at this
     cases this
def mins (L:List Nat):List Nat:=pick (fun _=>true) L
theorem mem_mins {L:List Nat} (hL:L.Pairwise (· < ·)) {a:Nat}:a∈mins L↔a∈L∧∀b∈L,sub b a→b=a:=by
 unfold mins
 rw [qeU hL]
 unfold qfR
 simp
theorem qjO {L:List Nat} (hL:L.Pairwise (· < ·)) {b:Nat} (hb:b∈L):∃c∈mins L,sub c b:=by
 obtain ⟨c,hc,hm,hs⟩:=qdK (fun _=>true) L b b (Nat.le_refl _) hb rfl
 exact ⟨c,(qeU hL).mpr ⟨hc,hm⟩,hs⟩
theorem hits_hits {m:Nat} {fs:List Nat} (hr:fs.Pairwise (· < ·)) (hb:∀b∈fs,b<2^m):hits m (hits m fs)=mins fs:=by
 refine rise_ext (hits_rise _ _) (qc2 hr) fun a=>?_
 rw [mem_mins hr]
 -- each set of the family meets all hits
 have meet:∀f∈fs,hitP (hits m fs) f=true:=fun f hf=>hitP_iff.mpr fun h hh=>qc5.mp (hitP_iff.mp (mem_hits.mp hh).2.1 f hf)
 -- what meets all hits holds a set of the family
 have hold:∀t,t<2^m→hitP (hits m fs) t=true→∃f∈fs,sub f t:=fun t ht hp=>by
   apply Classical.byContradiction
   intro hn
   have:hitP fs (rst m t)=true:=hitP_iff.mpr fun f hf=>by
     apply Classical.byContradiction
     intro hm
     have hs:sub f (rst m (rst m t)):=(qgO (hb f hf) (rst_lt m t)).mpr fun z=>hm (qc5.mp z)
     rw [rst_rst ht] at hs
     exact hn ⟨f,hf,hs⟩
   obtain ⟨c,hc,hs⟩:=qgB (rst_lt m t) this
   exact (qgO (qnI hs (rst_lt m t)) ht).mp hs (qc5.mp (hitP_iff.mp hp c hc))
 constructor
 · intro ha
   obtain ⟨h1,h2,h3⟩:=mem_hits.mp ha
   obtain ⟨f,hf,hs⟩:=hold a h1 h2
   have e:=h3 f (hb f hf) (meet f hf) hs
   subst e
   refine ⟨hf,fun b hbm hsb=>h3 b (hb b hbm) (meet b hbm) hsb⟩
 · rintro ⟨ha,hmin⟩
   refine mem_hits.mpr ⟨hb a ha,meet a ha,fun b hbl hp hs=>?_⟩
   obtain ⟨f,hf,hsf⟩:=hold b hbl hp
   have e:=hmin f hf (qcI hsf hs)
   subst e
   exact qhg hs hsf
end Fam
namespace Fam
def qrC (L:List Nat) (a:Nat):Prop:=∀b∈L,sub a b→b=a
instance (L:List Nat) (a:Nat):Decidable (qrC L a):=inferInstanceAs (Decidable (∀b∈L,_))
def sayP (fs:List Nat) (a:Nat):Bool:=fs.any fun b=>decide (sub b a)
theorem qbe {fs:List Nat} {a:Nat}:sayP fs a=true↔∃b∈fs,sub b a:=by
 unfold sayP
 rw [List.any_eq_true]
 simp only [decide_eq_true_eq]
theorem say_mins {fs:List Nat} (hr:fs.Pairwise (· < ·)) (a:Nat):sayP (mins fs) a=sayP fs a:=by
 rw [Bool.eq_iff_iff,qbe,qbe]
 constructor
 · rintro ⟨b,hb,hs⟩
   exact ⟨b,((mem_mins hr).mp hb).1,hs⟩
 · rintro ⟨b,hb,hs⟩
   obtain ⟨c,hc,hs'⟩:=qjO hr hb
   exact ⟨c,hc,qcI hs' hs⟩
theorem qi1 {m:Nat} {fs gs:List Nat} (h1:fs.Pairwise (· < ·)) (h2:gs.Pairwise (· < ·)) (b1:∀a∈fs,a<2^m) (b2:∀a∈gs,a<2^m):mins fs=mins gs↔∀a,a<2^m→sayP fs a=sayP gs a:=by
 constructor
 · intro h a _
   rw [←say_mins h1,h,say_mins h2]
 · intro h
   have key:∀{fs gs:List Nat},fs.Pairwise (· < ·)→gs.Pairwise (· < ·)→(∀a∈fs,a<2^m)→(∀a∈gs,a<2^m)→(∀a,a<2^m→sayP fs a=sayP gs a)→∀a,a∈mins fs→a∈mins gs:=fun {fs gs} h1 h2 b1 b2 h a ha=>by
     obtain ⟨a1,a2⟩:=(mem_mins h1).mp ha
     have s:sayP gs a=true:=(h a (b1 a a1))▸qbe.mpr ⟨a,a1,qeb a⟩
     obtain ⟨b,hb,hs⟩:=qbe.mp s
     have s2:sayP fs b=true:=(h b (b2 b hb)).trans (qbe.mpr ⟨b,hb,qeb b⟩)
     obtain ⟨c,hc,hs2⟩:=qbe.mp s2
     have e:=a2 c hc (qcI hs2 hs)
     subst e
     have e:=qhg hs2 hs
     subst e
     refine (mem_mins h2).mpr ⟨hb,fun d hd hsd=>?_⟩
     have s3:sayP fs d=true:=(h d (b2 d hd)).trans (qbe.mpr ⟨d,hd,qeb d⟩)
     obtain ⟨e,he,hse⟩:=qbe.mp s3
     have e2:=a2 e he (qcI hse hsd)
     subst e2
     exact qhg hsd hse
   exact rise_ext (qc2 h1) (qc2 h2) fun a=>⟨key h1 h2 b1 b2 h a,key h2 h1 b2 b1 (fun a ha=>(h a ha).symm) a⟩
def nms (n a:Nat):List Nat:=(List.range n).filter fun k=>a.testBit k
theorem mem_nms {n a k:Nat}:k∈nms n a↔k<n∧a.testBit k=true:=by
 unfold nms
 rw [List.mem_filter,List.mem_range]
theorem nms_rise (n a:Nat):(nms n a).Pairwise (· < ·):=List.pairwise_lt_range.sublist List.filter_sublist
def ofN (L:List Nat):Nat:=L.foldl (fun z k=>z|||2^k) 0
theorem qph (L:List Nat) (j:Nat):(ofN L).testBit j=decide (j∈L):=by
 have key:∀(L:List Nat) (z:Nat),(L.foldl (fun z k=>z|||2^k) z).testBit j=(z.testBit j||decide (j∈L)):=fun L=>by
   induction L with
   | nil=>intro z;simp
   | cons k L ih =>
     intro z
     rw [List.foldl_cons,ih,Nat.testBit_or,Nat.testBit_two_pow,Bool.or_assoc]
     congr 1
     by_cases c:k=j
     · subst c;simp
     · simp [c,Ne.symm c]
 unfold ofN
 rw [key]
 simp
theorem ofN_nms {n a:Nat} (h:a<2^n):ofN (nms n a)=a:=by
 refine Nat.eq_of_testBit_eq fun j=>?_
 rw [qph]
 cases hb:a.testBit j with
 | true=>exact decide_eq_true (mem_nms.mpr ⟨qll h hb,hb⟩)
 | false=>exact decide_eq_false fun z=>by rw [(mem_nms.mp z).2] at hb;cases hb
def pc (n a:Nat):Nat:=(nms n a).length
end Fam
namespace Fam
def yes (m:Nat) (f:Nat→Bool):List Nat:=(List.range (2^m)).filter f
def qnX (a k:Nat):Nat:=a+2^k
theorem say_hits {m:Nat} {fs:List Nat} {a:Nat} (ha:a<2^m):sayP (hits m fs) a=hitP fs a:=by
 rw [Bool.eq_iff_iff,qbe]
 constructor
 · rintro ⟨b,hb,s⟩
   exact qhR s (mem_hits.mp hb).2.1
 · intro h
   exact qgB ha h
end Fam
namespace Fam
theorem mins_rise {L:List Nat} (h:L.Pairwise (· < ·)):(mins L).Pairwise (· < ·):=qc2 h
theorem hits_lt {m:Nat} {fs:List Nat}:∀b∈hits m fs,b<2^m:=fun b hb=>(mem_hits.mp hb).1
theorem qk3 {L:List Nat} (h:L.Pairwise (· < ·)) (q:∀a∈L,∀b∈L,sub b a→b=a):mins L=L:=rise_ext (mins_rise h) h fun x=>by
 rw [mem_mins h]
 exact ⟨fun z=>z.1,fun z=>⟨z,q x z⟩⟩
theorem hits_anti {m:Nat} {fs:List Nat}:∀a∈hits m fs,∀b∈hits m fs,sub b a→b=a:=fun a ha b hb s=>(mem_hits.mp ha).2.2 b (mem_hits.mp hb).1 (mem_hits.mp hb).2.1 s
theorem mins_hits (m:Nat) (fs:List Nat):mins (hits m fs)=hits m fs:=qk3 (hits_rise m fs) hits_anti
end Fam
namespace Fam
def Each (m:Nat) (fs gs:List Nat):Prop:=(∀a∈fs,∀b∈gs,mt a b)∧∀s,s<2^m→sayP fs s=true∨sayP gs (rst m s)=true
theorem hit_say' {m:Nat} {X:List Nat} (hb:∀b∈X,b<2^m) {a:Nat} (ha:a<2^m):hitP X a = !sayP X (rst m a):=by
 rw [Bool.eq_iff_iff,hitP_iff]
 constructor
 · intro h
   cases e:sayP X (rst m a) with
   | false=>rfl
   | true =>
     obtain ⟨b,h1,h2⟩:=qbe.mp e
     exact absurd (qc5.mp (h b h1)) ((qgO (hb b h1) ha).mp h2)
 · intro h b h1
   apply Classical.byContradiction
   intro z
   have:=(qgO (hb b h1) ha).mpr fun y=>z (qc5.mp y)
   rw [qbe.mpr ⟨b,h1,this⟩] at h
   cases h
theorem each_iff {m:Nat} {fs gs:List Nat} (hf:∀b∈fs,b<2^m) (hr:gs.Pairwise (· < ·)) (hg:∀b∈gs,b<2^m):Each m fs gs↔hits m fs=mins gs:=by
 have key:(∀a,a<2^m→sayP (hits m fs) a=sayP gs a)↔hits m fs=mins gs:=by
   have:=qi1 (m:=m) (hits_rise m fs) hr hits_lt hg
   rw [mins_hits] at this
   exact this.symm
 rw [←key]
 constructor
 · rintro ⟨h1,h2⟩ a ha
   rw [say_hits ha,Bool.eq_iff_iff]
   constructor
   · intro h
     rw [hit_say' hf ha] at h
     rcases h2 (rst m a) (rst_lt m a) with z | z
     · rw [z] at h;cases h
     · rw [rst_rst ha] at z;exact z
   · intro h
     obtain ⟨b,hb,s⟩:=qbe.mp h
     exact hitP_iff.mpr fun c hc=>qlG s (qc5.mp (h1 c hc b hb))
 · intro h
   refine ⟨fun a ha b hb=>?_,fun s hs=>?_⟩
   · have h1:sayP gs b=true:=qbe.mpr ⟨b,hb,qeb b⟩
     rw [←h b (hg b hb),say_hits (hg b hb)] at h1
     exact qc5.mp (hitP_iff.mp h1 a ha)
   · have h1:=h (rst m s) (rst_lt m s)
     rw [say_hits (rst_lt m s),hit_say' hf (rst_lt m s),rst_rst hs] at h1
     cases e:sayP fs s with
     | true=>exact .inl rfl
     | false=>rw [e] at h1;exact .inr h1.symm
theorem each_turn {m:Nat} {fs gs:List Nat} (h:Each m fs gs):Each m gs fs:=⟨fun a ha b hb=>qc5.mp (h.1 b hb a ha),fun s hs=>by
 rcases h.2 (rst m s) (rst_lt m s) with z | z
 · exact .inr z
 · rw [rst_rst hs] at z;exact .inl z⟩
end Fam
namespace Fam
theorem qgV:∀(n:Nat) (L:List Nat),L.Nodup→(∀x∈L,x<n)→L.length≤n
 | 0,L,_,h=>by
   cases L with
   | nil=>exact Nat.le_refl _
   | cons a r=>exact absurd (h a (by simp)) (by omega)
 | n+1,L,hn,h=>by
   by_cases hm:n∈L
   · have h1:=qgV n (L.erase n) (hn.erase n) fun x hx=>by
       obtain ⟨h2,h3⟩:=hn.mem_erase_iff.mp hx
       have:=h x h3
       omega
     rw [List.length_erase_of_mem hm] at h1
     omega
   · have:=qgV n L hn fun x hx=>by
       have:=h x hx
       have:x≠n:=fun z=>hm (z▸hx)
       omega
     omega
def qgz:List (List Nat):=[[0,1,3,7,15,31,63,127,255],[2,6,14,30,62,126,254],[4,5,13,29,61,125,253],[8,9,11,27,59,123,251],[10,26,58,122,250],[12,28,60,124,252],[16,17,19,23,55,119,247],[18,22,54,118,246],[20,21,53,117,245],[24,25,57,121,249],[32,33,35,39,47,111,239],[34,38,46,110,238],[36,37,45,109,237],[40,41,43,107,235],[42,106,234],[44,108,236],[48,49,51,115,243],[50,114,242],[52,116,244],[56,120,248],[64,65,67,71,79,95,223],[66,70,78,94,222],[68,69,77,93,221],[72,73,75,91,219],[74,90,218],[76,92,220],[80,81,83,87,215],[82,86,214],[84,85,213],[88,89,217],[96,97,99,103,231],[98,102,230],[100,101,229],[104,105,233],[112,113,241],[128,129,131,135,143,159,191],[130,134,142,158,190],[132,133,141,157,189],[136,137,139,155,187],[138,154,186],[140,156,188],[144,145,147,151,183],[146,150,182],[148,149,181],[152,153,185],[160,161,163,167,175],[162,166,174],[164,165,173],[168,169,171],[170],[172],[176,177,179],[178],[180],[184],[192,193,195,199,207],[194,198,206],[196,197,205],[200,201,203],[202],[204],[208,209,211],[210],[212],[216],[224,225,227],[226],[228],[232],[240]]
theorem qgm:qgz.length=70:=by decide +kernel
theorem qjY:∀a,a<256→(qgz.any fun c=>c.contains a)=true:=by decide +kernel
theorem qj6:∀c∈qgz,∀a∈c,∀b∈c,sub a b∨sub b a:=by decide +kernel
def qgH (a:Nat):Nat:=qgz.findIdx fun c=>c.contains a
theorem qgj {a:Nat} (h:a<256):qgH a<70:=by
 rw [←qgm]
 refine List.findIdx_lt_length_of_exists ?_
 have:=qjY a h
 rw [List.any_eq_true] at this
 exact this
theorem qfN {a:Nat} (h:a<256):∃c,qgz[qgH a]?=some c∧a∈c:=by
 have h1:qgH a<qgz.length:=by rw [qgm];exact qgj h
 have h2:=List.findIdx_getElem (w:=h1)
 refine ⟨_,List.getElem?_eq_getElem h1,?_⟩
 exact List.contains_iff_mem.mp h2
theorem sperner {fs:List Nat} (hr:fs.Pairwise (· < ·)) (hb:∀b∈fs,b<256) (q:∀a∈fs,∀b∈fs,sub b a→b=a):fs.length≤70:=by
 have hn:(fs.map qgH).Nodup:=by
   unfold List.Nodup
   rw [List.pairwise_map]
   refine List.Pairwise.imp_of_mem (fun {a b} ha hb2 h=>?_) hr
   intro e
   obtain ⟨c,h1,h2⟩:=qfN (hb a ha)
   obtain ⟨d,h3,h4⟩:=qfN (hb b hb2)
   rw [e,h3] at h1
   have hcd:=Option.some.inj h1
   subst hcd
   rcases qj6 _ (List.mem_of_getElem? h3) a h2 b h4 with s | s
   · have:=q b hb2 a ha s
     omega
   · have:=q a ha b hb2 s
     omega
 have:=qgV 70 _ hn fun x hx=>by
   obtain ⟨a,ha,rfl⟩:=List.mem_map.mp hx
   exact qgj (hb a ha)
 simpa using this
end Fam
namespace Fam
theorem qgi (a k j:Nat):(a|||2^k).testBit j=(a.testBit j||decide (k=j)):=by
 rw [Nat.testBit_or,Nat.testBit_two_pow]
end Fam
namespace Fam
def Anti (L:List Nat):Prop:=∀a∈L,∀b∈L,sub b a→b=a
end Fam
namespace Fam
def partP (f:Nat→Bool) (x y s:Nat):Bool:=!s.testBit x&&!s.testBit y&&(f (s|||2^x)&&!f (s|||2^y))
def part (m:Nat) (f:Nat→Bool) (x y:Nat):Option Nat:=(List.range (2^m)).find? (partP f x y)
def trn (m:Nat) (f:Nat→Bool) (k:Nat):Nat:=((List.range (2^m)).filter fun s=>!f s&&f (s|||2^k)).length
def trns (m:Nat) (f:Nat→Bool):List Nat:=(List.range m).map (trn m f)
theorem qfA {f:Nat→Bool} {x y s:Nat}:partP f x y s=true↔s.testBit x=false∧s.testBit y=false∧f (s|||2^x)=true∧f (s|||2^y)=false:=by
 unfold partP
 cases s.testBit x<;>cases s.testBit y<;>cases f (s|||2^x)<;>cases f (s|||2^y)<;>simp
theorem qlv {m:Nat} {f:Nat→Bool} {x y:Nat}:part m f x y=none↔∀s,s<2^m→s.testBit x=false→s.testBit y=false→f (s|||2^x)=true→f (s|||2^y)=true:=by
 unfold part
 rw [List.find?_eq_none]
 constructor
 · intro h s hs h1 h2 h3
   have:=h s (List.mem_range.mpr hs)
   rw [qfA] at this
   cases e:f (s|||2^y) with
   | true=>rfl
   | false=>exact absurd ⟨h1,h2,h3,e⟩ this
 · intro h s hs hp
   obtain ⟨h1,h2,h3,h4⟩:=qfA.mp hp
   rw [h s (List.mem_range.mp hs) h1 h2 h3] at h4
   cases h4
theorem part_some {m:Nat} {f:Nat→Bool} {x y s:Nat} (h:part m f x y=some s):s<2^m∧s.testBit x=false∧s.testBit y=false∧f (s|||2^x)=true∧f (s|||2^y)=false :=
 ⟨List.mem_range.mp (List.mem_of_find?_eq_some h),qfA.mp (List.find?_some h)⟩
theorem qlS:∀(A B:List Nat),A.Nodup→(∀x∈A,x∈B)→A.length≤B.length
 | [],_,_,_=>Nat.zero_le _
 | a::A,B,hn,hs=>by
   have hn':=List.nodup_cons.mp hn
   have ha:=hs a List.mem_cons_self
   have:=qlS A (B.erase a) hn'.2 fun x hx=>(List.mem_erase_of_ne (fun z:x=a=>hn'.1 (z▸hx))).mpr (hs x (List.mem_cons_of_mem _ hx))
   rw [List.length_erase_of_mem ha] at this
   have:=List.length_pos_of_mem ha
   simp only [List.length_cons]
   omega
theorem qkm {A:List Nat} {g:Nat→Nat} (hn:A.Nodup) (hi:∀a∈A,∀b∈A,g a=g b→a=b):(A.map g).Nodup:=by
 unfold List.Nodup
 rw [List.pairwise_map]
 exact List.Pairwise.imp_of_mem (fun {a b} ha hb hne e=>hne (hi a ha b hb e)) hn
theorem qqc {n:Nat} {c d:Nat→Bool} (g:Nat→Nat) (h:∀s,s<n→c s=true→g s<n∧d (g s)=true) (hi:∀s t,s<n→t<n→c s=true→c t=true→g s=g t→s=t):((List.range n).filter c).length≤((List.range n).filter d).length:=by
 have nd:((List.range n).filter c).Nodup:=List.nodup_range.sublist List.filter_sublist
 have:=qlS (((List.range n).filter c).map g) ((List.range n).filter d) (qkm nd fun a ha b hb e=>by
   rw [List.mem_filter,List.mem_range] at ha hb
   exact hi a b ha.1 hb.1 ha.2 hb.2 e) fun x hx=>by
     obtain ⟨s,hs,rfl⟩:=List.mem_map.mp hx
     rw [List.mem_filter,List.mem_range] at hs ⊢
     exact h s hs.1 hs.2
 rwa [List.length_map] at this
theorem qkM {s x:Nat} (f:Nat→Bool) (h1:f s=false) (h2:f (s|||2^x)=true):s.testBit x=false:=by
 cases e:s.testBit x with
 | false=>rfl
 | true =>
   have:s|||2^x=s:=Nat.eq_of_testBit_eq fun i=>by
     rw [qgi]
     by_cases c:x=i
     · subst c;simp [e]
     · simp [c]
   rw [this,h1] at h2
   cases h2
theorem qlO {f:Nat→Bool} {s k:Nat}:(!f s&&f (s|||2^k))=true↔f s=false∧f (s|||2^k)=true:=by
 cases f s<;>simp
theorem qh2 {m:Nat} {f g:Nat→Bool} {k:Nat} (hk:k<m) (h:∀s,s<2^m→f s=g s):trn m f k=trn m g k:=by
 unfold trn
 congr 1
 refine List.filter_congr fun s hs=>?_
 have hs:=List.mem_range.mp hs
 rw [h s hs,h (s|||2^k) (Nat.or_lt_two_pow hs (Nat.pow_lt_pow_right (by decide) hk))]
theorem trns_congr {m:Nat} {f g:Nat→Bool} (h:∀s,s<2^m→f s=g s):trns m f=trns m g:=by
 unfold trns
 exact List.map_congr_left fun k hk=>qh2 (List.mem_range.mp hk) h
theorem part_congr {m:Nat} {f g:Nat→Bool} {x y:Nat} (hx:x<m) (hy:y<m) (h:∀s,s<2^m→f s=g s):part m f x y=part m g x y:=by
 unfold part
 have:∀L:List Nat,(∀s∈L,s<2^m)→L.find? (partP f x y)=L.find? (partP g x y):=fun L=>by
   induction L with
   | nil=>intro _;rfl
   | cons s L ih =>
     intro hL
     have hs:=hL s List.mem_cons_self
     have e:partP f x y s=partP g x y s:=by
       unfold partP
       rw [h _ (Nat.or_lt_two_pow hs (Nat.pow_lt_pow_right (by decide) hx)),h _ (Nat.or_lt_two_pow hs (Nat.pow_lt_pow_right (by decide) hy))]
     rw [List.find?_cons,List.find?_cons,e,ih fun z hz=>hL z (List.mem_cons_of_mem _ hz)]
 exact this _ fun s hs=>List.mem_range.mp hs
def du (m:Nat) (f:Nat→Bool) (s:Nat):Bool:=!f (rst m s)
theorem qqR {m:Nat} {f:Nat→Bool} {s:Nat} (hs:s<2^m):du m (du m f) s=f s:=by
 unfold du
 rw [rst_rst hs,Bool.not_not]
theorem qcY {m s k:Nat} (hs:s<2^m) (hk:k<m) (hb:s.testBit k=false):rst m (s|||2^k)<2^m∧(rst m (s|||2^k)).testBit k=false∧rst m (s|||2^k)|||2^k=rst m s:=by
 have hl:s|||2^k<2^m:=Nat.or_lt_two_pow hs (Nat.pow_lt_pow_right (by decide) hk)
 refine ⟨rst_lt _ _,by rw [qfW hl,qgi];simp,Nat.eq_of_testBit_eq fun j=>?_⟩
 rw [qgi,qfW hl,qfW hs,qgi]
 by_cases c:k=j
 · subst c;simp [hk,hb]
 · simp [c]
theorem qih {m:Nat} {f:Nat→Bool} {k:Nat} (hk:k<m):trn m (du m f) k≤trn m f k:=by
 have key:∀s,s<2^m→(!du m f s&&du m f (s|||2^k))=true→s.testBit k=false∧rst m (s|||2^k)<2^m∧f (rst m (s|||2^k))=false∧f (rst m (s|||2^k)|||2^k)=true:=fun s hs hc=>by
   obtain ⟨h1,h2⟩:=qlO.mp hc
   have hb:=qkM _ h1 h2
   obtain ⟨g1,g2,g3⟩:=qcY hs hk hb
   refine ⟨hb,g1,?_,?_⟩
   · unfold du at h2;simpa using h2
   · rw [g3];unfold du at h1;simpa using h1
 refine qqc (fun s=>rst m (s|||2^k)) (fun s hs hc=>?_) fun s t hs ht c1 c2 e=>?_
 · obtain ⟨_,h1,h2,h3⟩:=key s hs hc
   exact ⟨h1,qlO.mpr ⟨h2,h3⟩⟩
 · obtain ⟨b1,_⟩:=key s hs c1
   obtain ⟨b2,_⟩:=key t ht c2
   have:=(qcY hs hk b1).2.2
   have e':rst m (s|||2^k)=rst m (t|||2^k):=e
   rw [e',(qcY ht hk b2).2.2] at this
   rw [←rst_rst hs,←this,rst_rst ht]
theorem qqN {m:Nat} {f:Nat→Bool} {k:Nat} (hk:k<m):trn m (du m f) k=trn m f k:=by
 refine Nat.le_antisymm (qih hk) ?_
 have:=qih (f:=du m f) hk
 rwa [qh2 hk fun s hs=>qqR (f:=f) hs] at this
theorem trns_du {m:Nat} {f:Nat→Bool}:trns m (du m f)=trns m f:=by
 unfold trns
 exact List.map_congr_left fun k hk=>qqN (List.mem_range.mp hk)
theorem qeK {m:Nat} {f:Nat→Bool} {x y:Nat} (hxy:x≠y) (hx:x<m) (hy:y<m) (h:part m f x y=none):part m (du m f) x y=none:=by
 rw [qlv] at h ⊢
 intro s hs b1 b2 h1
 have hy':(s|||2^y)<2^m:=Nat.or_lt_two_pow hs (Nat.pow_lt_pow_right (by decide) hy)
 have hx':(s|||2^x)<2^m:=Nat.or_lt_two_pow hs (Nat.pow_lt_pow_right (by decide) hx)
 have byx:(s|||2^y).testBit x=false:=by rw [qgi,b1];simp [Ne.symm hxy]
 have bxy:(s|||2^x).testBit y=false:=by rw [qgi,b2];simp [hxy]
 have e0:s|||2^y|||2^x=s|||2^x|||2^y:=by rw [Nat.or_assoc,Nat.or_comm (2^y),←Nat.or_assoc]
 have g1:=qcY hy' hx byx
 have g2:=qcY hx' hy bxy
 rw [e0] at g1
 unfold du at h1 ⊢
 rw [←g2.2.2] at h1
 rw [←g1.2.2]
 have:=h (rst m (s|||2^x|||2^y)) g2.1 g1.2.1 g2.2.1
 cases z:f (rst m (s|||2^x|||2^y)|||2^x) with
 | false=>rfl
 | true=>rw [this z] at h1;cases h1
theorem part_du {m:Nat} {f:Nat→Bool} {x y:Nat} (hxy:x≠y) (hx:x<m) (hy:y<m):(part m (du m f) x y).isSome=(part m f x y).isSome:=by
 cases h1:part m f x y with
 | none=>rw [qeK hxy hx hy h1]
 | some s =>
   cases h2:part m (du m f) x y with
   | some t=>rfl
   | none =>
     have:=qeK hxy hx hy h2
     rw [part_congr hx hy fun s hs=>qqR (f:=f) hs,h1] at this
     cases this
theorem say_hits_du {m:Nat} {fs:List Nat} (hb:∀b∈fs,b<2^m) {s:Nat} (hs:s<2^m):sayP (hits m fs) s=du m (sayP fs) s:=by
 rw [say_hits hs,hit_say' hb hs]
 rfl
end Fam
namespace Fam
structure Ord (m:Nat) (o:List Nat):Prop where
 len:o.length=m
 lt:∀x∈o,x<m
 nd:o.Nodup
def at' (o:List Nat) (k:Nat):Nat:=o.getD k 0
def ex (o:List Nat) (a:Nat):Nat:=ofN ((nms 8 a).map (at' o))
section
variable {m:Nat} {o:List Nat}
def back (o:List Nat):List Nat:=(List.range o.length).map fun j=>o.idxOf j
end
end Fam
namespace STb
open PySem PySem.SetTable
def Ris (xs:Array Nat):Prop:=xs.toList.Pairwise (· < ·)
theorem Ris.lt {xs:Array Nat} (h:Ris xs) {i j a b:Nat} (hij:i<j) (ha:xs[i]?=some a) (hb:xs[j]?=some b):a<b:=by
 have h':=List.pairwise_iff_getElem.mp h
 rw [←Array.getElem?_toList] at ha hb
 obtain ⟨h1,e1⟩:=List.getElem?_eq_some_iff.mp ha
 obtain ⟨h2,e2⟩:=List.getElem?_eq_some_iff.mp hb
 have:=h' i j h1 h2 hij
 rw [e1,e2] at this
 exact this
theorem Ris.le {xs:Array Nat} (h:Ris xs) {i j a b:Nat} (hij:i≤j) (ha:xs[i]?=some a) (hb:xs[j]?=some b):a≤b:=by
 rcases Nat.lt_or_ge i j with z | z
 · exact Nat.le_of_lt (h.lt z ha hb)
 · have:i=j:=by omega
   subst this
   rw [ha] at hb
   cases hb
   exact Nat.le_refl _
theorem qir {xs:Array Nat} (h:Ris xs) (j:Nat):∀(fuel lo hi:Nat),hi-lo≤fuel→lo≤hi→hi≤xs.size →
   (∀i y,i<lo→xs[i]?=some y→y<j)→(∀i y,hi≤i→xs[i]?=some y→j≤y) →
   below.go xs j fuel lo hi≤xs.size∧(∀i y,i<below.go xs j fuel lo hi→xs[i]?=some y→y<j)∧(∀i y,below.go xs j fuel lo hi≤i→xs[i]?=some y→j≤y)
 | 0,lo,hi,hf,hl,hs,h1,h2=>by
   have:lo=hi:=by omega
   subst this
   exact ⟨hs,h1,h2⟩
 | fuel+1,lo,hi,hf,hl,hs,h1,h2=>by
   rw [below.go]
   by_cases hlt:lo<hi
   · rw [if_pos hlt]
     dsimp only
     have hm:(lo+hi)/2<xs.size:=by omega
     have hg:xs[(lo+hi)/2]?=some (xs.getD ((lo+hi)/2) j):=by simp [Array.getD,hm]
     by_cases hc:xs.getD ((lo+hi)/2) j<j
     · rw [if_pos hc]
       refine qir h j fuel _ _ (by omega) (by omega) hs (fun i y hi' e=>?_) h2
       exact Nat.lt_of_le_of_lt (h.le (by omega) e hg) hc
     · rw [if_neg hc]
       refine qir h j fuel _ _ (by omega) (by omega) (by omega) h1 (fun i y hi' e=>?_)
       exact Nat.le_trans (Nat.not_lt.mp hc) (h.le hi' hg e)
   · rw [if_neg hlt]
     have:lo=hi:=by omega
     subst this
     exact ⟨hs,h1,h2⟩
theorem qes {xs:Array Nat} (h:Ris xs) (j:Nat):below xs j≤xs.size∧(∀i y,i<below xs j→xs[i]?=some y→y<j)∧(∀i y,below xs j≤i→xs[i]?=some y→j≤y) :=
 qir h j xs.size 0 xs.size (by omega) (Nat.zero_le _) (Nat.le_refl _) (fun i y hi=>by omega) (fun i y hi e=>by
   rw [Array.getElem?_eq_none (by omega)] at e
   cases e)
theorem qj3 {xs:Array Nat} (h:Ris xs):below xs 0=0:=by
 obtain ⟨h0,h1,_⟩:=qes h 0
 rcases Nat.eq_zero_or_pos (below xs 0) with z | z
 · exact z
 · have hlt:0<xs.size:=by omega
   have:=h1 0 xs[0] z (by simp)
   omega
theorem qjJ {xs:Array Nat} (h:Ris xs) {i y:Nat} (e:xs[i]?=some y):below xs (y+1)=i+1:=by
 obtain ⟨h0,h1,h2⟩:=qes h (y+1)
 have hi:i<xs.size:=by
   rcases Nat.lt_or_ge i xs.size with z | z
   · exact z
   · rw [Array.getElem?_eq_none z] at e;cases e
 have g1:¬below xs (y+1)≤i:=fun z=>by have:=h2 i y z e;omega
 have g2:¬i+1<below xs (y+1):=fun z=>by
   have hlt:i+1<xs.size:=by omega
   have q:=h1 (i+1) xs[i+1] z (by simp [hlt])
   have q':=h.lt (Nat.lt_succ_self i) e (show xs[i+1]?=some xs[i+1] by simp [hlt])
   omega
 omega
theorem qfK {α:Type} (xs:Array α) (p:Nat) (hp:p≤xs.size) (x:α):(insertAt xs p x).toList=xs.toList.take p++x::xs.toList.drop p:=by
 unfold insertAt
 have e2:(xs.extract p xs.size).toList=xs.toList.drop p:=by
   rw [Array.toList_extract,List.extract_eq_drop_take]
   have:xs.size-p=(xs.toList.drop p).length:=by rw [List.length_drop,Array.length_toList]
   rw [this,List.take_length]
 have e1:(xs.extract 0 p).toList=xs.toList.take p:=by
   rw [Array.toList_extract,List.extract_eq_drop_take]
   rfl
 rw [Array.toList_append,Array.toList_push,e1,e2,List.append_assoc]
 rfl
theorem qo8 {t:SetTable} (h:Ris t.place) {j:Nat} (hj:t.place[below t.place j]?≠some j):Ris (t.put j).1.place:=by
 obtain ⟨h0,h1,h2⟩:=qes h j
 unfold SetTable.put Ris
 dsimp only
 rw [qfK _ _ h0]
 have hp:(t.place.toList.take (below t.place j)++t.place.toList.drop (below t.place j)).Pairwise (· < ·):=by rw [List.take_append_drop];exact h
 obtain ⟨p1,p2,p3⟩:=List.pairwise_append.mp hp
 refine List.pairwise_append.mpr ⟨p1,List.pairwise_cons.mpr ⟨fun y hy=>?_,p2⟩,fun x hx y hy=>?_⟩
 · obtain ⟨i,e⟩:=List.getElem?_of_mem hy
   rw [List.getElem?_drop,Array.getElem?_toList] at e
   have q:=h2 _ y (Nat.le_add_right _ _) e
   rcases Nat.lt_or_ge j y with z | z
   · exact z
   · exfalso
     have ey:y=j:=by omega
     subst ey
     cases i with
     | zero=>exact hj (by simpa using e)
     | succ i =>
       have hlt:below t.place y<t.place.size:=by
         rcases Nat.lt_or_ge (below t.place y+(i+1)) t.place.size with z | z
         · omega
         · rw [Array.getElem?_eq_none z] at e;cases e
       have q1:=h2 (below t.place y) t.place[below t.place y] (Nat.le_refl _) (by simp)
       have q2:=h.lt (show below t.place y<below t.place y+(i+1) by omega) (show t.place[below t.place y]?=some t.place[below t.place y] by simp) e
       omega
 · have hx':x<j:=by
     obtain ⟨i,e⟩:=List.getElem?_of_mem hx
     rw [List.getElem?_take] at e
     split at e
     · rename_i hi
       rw [Array.getElem?_toList] at e
       exact h1 i x hi e
     · cases e
   rcases List.mem_cons.mp hy with rfl | hy
   · exact hx'
   · exact p3 x hx y hy
def qfX (t:SetTable) (j:Nat):Prop:=t.place[below t.place j]?≠some j
theorem qeI {t:SetTable} {j:Nat} (h:∀i,t.slot j ≠ .live i):qfX t j:=by
 intro e
 unfold SetTable.slot at h
 dsimp only at h
 rw [if_pos (by rw [e];simp)] at h
 exact h _ rfl
theorem qhb {t:SetTable} {h:Int}:∀(fuel:Nat) (p:Probe) (j:Nat) (d:Option Nat),(∀x,p.dummy=some x→qfX t x)→probe.go t (fun _=>h+1) h fuel p=some (.empty j d)→qfX t j∧∀x,d=some x→qfX t x
 | 0,p,j,d,_,e=>by rw [probe.go] at e;cases e
 | fuel+1,p,j,d,hp,e=>by
   rw [probe.go] at e
   cases hs:t.slot p.j with
   | empty =>
     rw [hs] at e
     cases e
     exact ⟨qeI (fun i z=>by rw [hs] at z;exact (nomatch z)),hp⟩
   | dummy =>
     rw [hs] at e
     refine qhb fuel _ j d (fun x hx=>?_) e
     have:(t.advance { p with dummy:=some p.j }).dummy=some p.j:=by unfold SetTable.advance;dsimp only;split<;>rfl
     rw [this] at hx
     cases hx
     exact qeI fun i z=>by rw [hs] at z;cases z
   | live i =>
     rw [hs] at e
     dsimp only at e
     rw [if_neg (by simp;omega)] at e
     refine qhb fuel _ j d (fun x hx=>hp x ?_) e
     have:(t.advance p).dummy=p.dummy:=by unfold SetTable.advance;dsimp only;split<;>rfl
     rw [this] at hx
     exact hx
theorem qid {t:SetTable} {h:Int} {j:Nat} {b:Bool} (e:t.freeSlot h=some (j,b)):qfX t j:=by
 unfold SetTable.freeSlot at e
 split at e
 · rename_i k d hd
   cases e
   obtain ⟨q1,q2⟩:=qhb _ _ _ _ (by intro x hx;cases hx) hd
   cases d with
   | none=>exact q1
   | some x=>exact q2 x rfl
 · cases e
theorem qkJ (n:Nat):Ris (Array.range n):=by
 unfold Ris
 rw [Array.toList_range]
 exact List.pairwise_lt_range
theorem qcM (t:SetTable) (n:Nat):Ris (t.standIn n).place:=qkJ n
theorem qjS {t:SetTable} {es:Array (Int×Value)} {h:Int} {x:Value} (hr:Ris t.place):Ris (layNew t es h x).2.1.place∧(layNew t es h x).2.1.led=t.led:=by
 unfold layNew
 split
 · rename_i slot wd e
   dsimp only
   unfold SetTable.orStandIn
   split
   · exact ⟨qo8 hr (qid e),rfl⟩
   · exact ⟨qcM _ _,rfl⟩
 · exact ⟨qcM _ _,rfl⟩
theorem qne {mask finger moves:Nat} {led plain:Bool} {hashes:Array Int} {t:SetTable} {o:Array Nat} (e:laid mask finger moves led plain hashes=some (t,o)):Ris t.place∧t.led=led:=by
 unfold laid at e
 cases hc:layClean mask hashes with
 | none=>rw [hc] at e;cases e
 | some owner =>
   rw [hc] at e
   have e':=Option.some.inj e
   have e1:=congrArg Prod.fst e'
   dsimp only at e1
   subst e1
   refine ⟨?_,rfl⟩
   unfold Ris
   dsimp only
   have key:∀l:List Nat,l.Pairwise (· < ·)→((l.filterMap fun j=>(owner.getD j none).map (j,·)).map (·.1)).Pairwise (· < ·):=by
     intro l
     induction l with
     | nil=>intro _;exact List.Pairwise.nil
     | cons a r ih =>
       intro hp
       obtain ⟨h1,h2⟩:=List.pairwise_cons.mp hp
       rw [List.filterMap_cons]
       split
       · exact ih h2
       · rename_i b hb
         rw [List.map_cons]
         refine List.pairwise_cons.mpr ⟨fun y hy=>?_,ih h2⟩
         have hb':b.1=a:=by
           cases hq:owner.getD a none with
           | none=>rw [hq] at hb;cases hb
           | some z=>rw [hq] at hb;cases hb;rfl
         rw [hb']
         obtain ⟨q,hq,rfl⟩:=List.mem_map.mp hy
         obtain ⟨z,hz,e⟩:=List.mem_filterMap.mp hq
         have:q.1=z:=by
           cases hq2:owner.getD z none with
           | none=>rw [hq2] at e;cases e
           | some v=>rw [hq2] at e;cases e;rfl
         rw [this]
         exact h1 z hz
   simpa using key (List.range (mask+1)) List.pairwise_lt_range
theorem qh7 {t:SetTable} {es:Array (Int×Value)} {wanted:Nat}:Ris (relayAll t es wanted).2.1.place∧(relayAll t es wanted).2.1.led=t.led:=by
 unfold relayAll
 split
 · rename_i t' order e
   dsimp only
   split
   · unfold SetTable.relaid at e
     exact qne e
   · exact ⟨qcM _ _,rfl⟩
 · exact ⟨qcM _ _,rfl⟩
end STb
namespace STb
open PySem PySem.SetTable PyProof.Rows
def kI:Value→Option Int
 | .int n _=>some n
 | _=>none
theorem qoW {prog:Program} {w:World} {k:Int} {v:Value}:(intKind prog w).is k v=true↔kI v=some k:=by
 constructor
 · intro h
   cases v<;>first
     | (rename_i n t;have:n=k:=by simpa [intKind,Value.isInt] using h
        rw [this];rfl)
     | (exfalso;simp [intKind,Value.isInt] at h)
 · intro h
   cases v<;>first
     | (rename_i n t;cases h;exact intKind_is _ _ _ _)
     | cases h
def RS (prog:Program) (w:World) (h:Heap) (a:Addr) (ns:List Int):Prop :=
 ∃es ep t,h.get? a=some { cls := .type "set",dict:=none,data := .set es ep t }∧ElemsOf (intKind prog w) es.toList∧(es.toList.map fun e=>kI e.2).Perm (ns.map some)∧es.size<scanBound∧t.fits es.size=true ∧
   Ris t.place∧t.led = !w.params.followText "set-order" ∧ ns.Nodup
theorem RS.keep {prog:Program} {w:World} {h h':Heap} {a:Addr} {ns:List Int} (r:RS prog w h a ns) (k:∀o,h.get? a=some o→h'.get? a=some o):RS prog w h' a ns:=by
 obtain ⟨es,ep,t,e,q⟩:=r
 exact ⟨es,ep,t,k _ e,q⟩
theorem RS.len {prog:Program} {w:World} {h:Heap} {a:Addr} {ns:List Int} (r:RS prog w h a ns):ns.length<scanBound:=by
 obtain ⟨es,ep,t,e,_,p,b,_⟩:=r
 have:=p.length_eq
 rw [List.length_map,List.length_map,Array.length_toList] at this
 omega
def qdC (ns:List Int) (n:Int):List Int:=if n∈ns then ns else ns++[n]
theorem qhl {ns:List Int} {n:Int} (h:ns.Nodup):(qdC ns n).Nodup:=by
 unfold qdC
 split
 · exact h
 · rename_i hn
   exact List.nodup_append.mpr ⟨h,by simp,fun a ha b hb e=>hn (by simp at hb;rw [←hb,←e];exact ha)⟩
theorem qhI {ns:List Int} {n k:Int}:k∈qdC ns n↔k∈ns∨k=n:=by
 unfold qdC
 split
 · rename_i hn
   exact ⟨.inl,fun h=>h.elim id fun e=>e▸hn⟩
 · simp
theorem qkz (ns:List Int) (n:Int):(qdC ns n).length≤ns.length+1:=by
 unfold qdC
 split
 · omega
 · simp
section
variable {prog:Program} {w:World} {A:Around} {E:Value→Shared→Prop} {s:Shared} {a:Addr}
theorem qq0 {ns:List Int} {n:Int} {tk:Tok} {Q:Bool→Shared→Prop} (r:RS prog w s.heap a ns) (room:ns.length+1<scanBound)
   (h:∀b h',Heap.SameBut a s.heap h'→RS prog w h' a (qdC ns n)→Q b { s with heap:=h' }) :
   wpAny (model prog w) A (setAddHashed a (.int n tk) ((intKind prog w).hash n)) Q E s:=by
 obtain ⟨es,ep,t,ho,el,pm,bd,ft,rs,ld,nd⟩:=r
 have hsz:es.size=ns.length:=by
   have:=pm.length_eq
   rwa [List.length_map,List.length_map,Array.length_toList] at this
 have hkey:(intKind prog w).is n (.int n tk)=true:=intKind_is _ _ _ _
 have memk:∀k:Int,k∈ns↔∃e∈es.toList,(intKind prog w).is k e.2=true:=fun k=>by
   have:k∈ns↔some k∈ns.map some:=by simp
   rw [this,←pm.mem_iff,List.mem_map]
   exact ⟨fun ⟨e,he,q⟩=>⟨e,he,qoW.mpr q⟩,fun ⟨e,he,q⟩=>⟨e,he,qoW.mp q⟩⟩
 unfold setAddHashed setAddHashedIn
 refine wpAny_holding (wpAny_bind (wpAny_setState_of ho rfl ft ?_))
 dsimp only
 rw [byScan_of (x := .int n tk) rfl bd el]
 simp only [if_true]
 unfold setAddByScan
 refine wpAny_bind (wpAny_bind (wpAny_rule (wpAny_bind (wpAny_setScan_of hkey ho rfl ft el ?_))))
 cases hr:List.findIdx? (fun e=>(intKind prog w).is n e.2) es.toList with
 | some j =>
   dsimp only
   obtain ⟨hj,hpj,_⟩:=List.findIdx?_eq_some_iff_getElem.mp hr
   have hin:n∈ns:=(memk n).mpr ⟨_,List.getElem_mem hj,hpj⟩
   refine wpAny_pure (wpAny_pure ?_)
   have q:=h false s.heap (Heap.SameBut.refl a s.heap) (by rw [show qdC ns n=ns from if_pos hin];exact ⟨es,ep,t,ho,el,pm,bd,ft,rs,ld,nd⟩)
   exact q
 | none =>
   dsimp only
   have hnot:¬n∈ns:=fun z=>by
     obtain ⟨e,he,q⟩:=(memk n).mp z
     have:=List.findIdx?_eq_none_iff.mp hr e he
     rw [q] at this
     cases this
   have pN:=layNew_perm t es ((intKind prog w).hash n) (.int n tk)
   have fN:=layNew_fits t es ((intKind prog w).hash n) (.int n tk)
   have rN:=qjS (es:=es) (h:=(intKind prog w).hash n) (x := .int n tk) rs
   generalize layNew t es ((intKind prog w).hash n) (.int n tk)=L at pN fN rN ⊢
   obtain ⟨e1,t1,wd,gv⟩:=L
   dsimp only at pN fN rN ⊢
   rw [Array.toList_push] at pN
   have el1:ElemsOf (intKind prog w) e1.toList:=(el.push hkey rfl).perm pN
   have pm1:(e1.toList.map fun e=>kI e.2).Perm ((qdC ns n).map some):=by
     rw [show qdC ns n=ns++[n] from if_neg hnot,List.map_append]
     refine (pN.map fun e=>kI e.2).trans ?_
     rw [List.map_append]
     exact pm.append (List.Perm.refl _)
   have sz1:e1.size=es.size+1:=by
     rw [←Array.length_toList,pN.length_eq,List.length_append,Array.length_toList]
     rfl
   have bd1:e1.size<scanBound:=by omega
   have nd1:=qhl (n:=n) nd
   have gw:∀(b:Bool) (s₁:Shared) (Q':Unit→Shared→Prop),Q' () s₁→wpAny (model prog w) A (match b with | true=>rule "set.scan.the-table-gave-way" | false=>pure ()) Q' E s₁:=fun b s₁ Q' q=>by
     cases b
     · exact wpAny_pure q
     · exact wpAny_rule q
   refine wpAny_bind (gw gv _ _ ?_)
   have tail:∀t2:SetTable,t2.fits e1.size=true→Ris t2.place→t2.led=t.led→wpAny (model prog w) A (do
       storeSet a e1 t2
       if (!wd&&t2.tooFull)=true then do
           (match (relayAll t2 e1 (SetTable.grown e1.size)).2.2 with | true=>rule "set.scan.the-table-gave-way" | false=>pure ())
           storeSet a (relayAll t2 e1 (SetTable.grown e1.size)).1 (relayAll t2 e1 (SetTable.grown e1.size)).2.1
           pure (some true)
         else pure (some true)) (fun r s'=>∃b,r=some b∧Q b s') E s:=fun t2 f2 r2 l2=>by
     refine wpAny_bind (wpAny_storeSet_of ho rfl ?_ (fits_of_scanBound bd1))
     have g1:(s.heap.update a (Obj.putSet e1 t2)).get? a=some { cls := .type "set",dict:=none,data := .set e1 (ep+1) t2 }:=Heap.get?_update_self (Obj.putSet e1 t2) ho rfl
     have sb1:=Heap.SameBut.update s.heap a (Obj.putSet e1 t2)
     split
     · have pR:=relayAll_perm t2 e1 (SetTable.grown e1.size)
       have fR:=relayAll_fits t2 e1 (SetTable.grown e1.size)
       have rR:=qh7 (t:=t2) (es:=e1) (wanted:=SetTable.grown e1.size)
       generalize relayAll t2 e1 (SetTable.grown e1.size)=L2 at pR fR rR ⊢
       obtain ⟨e3,t3,g3⟩:=L2
       dsimp only at pR fR rR ⊢
       have sz3:e3.size=e1.size:=by rw [←Array.length_toList,pR.length_eq,Array.length_toList]
       refine wpAny_bind (gw g3 _ _ (wpAny_bind (wpAny_storeSet_of g1 rfl ?_ (fits_of_scanBound (by omega)))))
       exact wpAny_pure ⟨true,rfl,h true _ (sb1.trans (Heap.SameBut.update _ a _)) ⟨e3,_,t3,Heap.get?_update_self (Obj.putSet e3 t3) g1 rfl,el1.perm pR,(pR.map _).trans pm1,by omega,fR,rR.1,by rw [rR.2,l2];exact ld,nd1⟩⟩
     · exact wpAny_pure ⟨true,rfl,h true _ sb1 ⟨e1,_,t2,g1,el1,pm1,bd1,f2,r2,by rw [l2];exact ld,nd1⟩⟩
   have fin:∀(r:Option Bool) (s':Shared),(∃b,r=some b∧Q b s')→wpAny (model prog w) A (match r with | some added=>pure added | none=>setAddHashedIn a (.int n tk) ((intKind prog w).hash n) 99999) Q E s':=fun r s' ⟨b,e,q⟩=>by
     subst e
     exact wpAny_pure q
   split
   · refine wpAny_bind ?_
     rw [hashByValue_scannable 8 (x := .int n tk) rfl]
     refine wpAny_pure ?_
     refine wpAny_mono (tail t1 fN rN.1 rN.2) (fun r s' q=>?_) fun _ _ z=>z
     exact fin r s' q
   · refine wpAny_bind (wpAny_pure ?_)
     refine wpAny_mono (tail t1 fN rN.1 rN.2) (fun r s' q=>?_) fun _ _ z=>z
     exact fin r s' q
end
end STb
namespace STb
open PySem PySem.SetTable PyProof.Rows
def qcB (val:Nat→Int) (i:Nat):List Int:=((List.range i).map val).foldl qdC []
theorem qdi (val:Nat→Int) (i:Nat):qcB val (i+1)=qdC (qcB val i) (val i):=by
 unfold qcB
 rw [List.range_succ,List.map_append,List.foldl_append]
 rfl
theorem qfh (val:Nat→Int):∀i,(qcB val i).length≤i
 | 0=>Nat.zero_le _
 | i+1=>by
   rw [qdi]
   have h1:=qkz (qcB val i) (val i)
   have h2:=qfh val i
   omega
theorem qhY (val:Nat→Int) (k:Int):∀i,k∈qcB val i↔∃j,j<i∧val j=k
 | 0=>by simp [qcB]
 | i+1=>by
   rw [qdi,qhI,qhY val k i]
   constructor
   · rintro (⟨j,hj,e⟩ | e)
     · exact ⟨j,by omega,e⟩
     · exact ⟨i,by omega,e.symm⟩
   · rintro ⟨j,hj,e⟩
     by_cases z:j=i
     · exact .inr (by rw [←e,z])
     · exact .inl ⟨j,by omega,e⟩
section
variable {prog:Program} {w:World} {A:Around} {R:Result→Shared→Prop} {I:Addr} {fp wr:List Addr} {G:Array GenState→Array GenState→Prop} {n:Nat} {P:Nat→Value→Prop} {St:Nat→Shared→Prop}
theorem qkY (W:WalksS prog w A.in1 I fp wr G n P St) (S:Addr) (out:S∉fp) (val:Nat→Int) (hv:∀i v,P i v→∃t,v = .int (val i) t) (room:∀i,i≤n→(qcB val i).length+1<scanBound) :
   ∀(k i:Nat) (s:Shared),n-i=k→i≤n→St i s→RS prog w s.heap S (qcB val i) →
     (∀s',Moved (S::wr) G s s'→RS prog w s'.heap S (qcB val n)→R (.ok (.ret .none)) s')→codeAny (model prog w) A (.builtin "set.update.loop" ⟨[.ref S,.ref I],[]⟩) R s:=by
 have nw:S∉wr:=fun z=>out (W.sub _ z)
 have sub:∀b∈wr,b∈S::wr:=fun b z=>List.mem_cons_of_mem _ z
 intro k
 induction k with
 | zero =>
   intro i s hk hi st r fin
   have:i=n:=by omega
   subst this
   refine codeAny_builtin F.entry_set_update_loop ?_
   rw [Around.under_plainId F.plain_set_update_loop _]
   refine wpAny_bind (m:=pyNext (.ref I)) (W.done s _ _ st fun s' mv=>?_)
   exact wpAny_pure (fin s' (mv.mono sub) (r.keep fun o e=>mv.heap S o nw e))
 | succ k ih =>
   intro i s hk hi st r fin
   have hlt:i<n:=by omega
   refine codeAny_builtin F.entry_set_update_loop ?_
   rw [Around.under_plainId F.plain_set_update_loop _]
   refine wpAny_bind (m:=pyNext (.ref I)) (W.item i s _ _ hlt st fun v s' pv st' mv=>?_)
   obtain ⟨t,rfl⟩:=hv i v pv
   have r':=r.keep (h':=s'.heap) fun o e=>mv.heap S o nw e
   show wpAny _ A.in1 (holding [Value.int (val i) t] (setAdd S (.int (val i) t)) >>= _) _ _ s'
   refine wpAny_bind (wpAny_holding ?_)
   unfold setAdd
   refine wpAny_holding (wpAny_bind ((intKind prog w).pyHash (k:=val i) (intKind_is _ _ _ _) ?_))
   refine qq0 (s:={ s' with toks:=s'.toks+1 }) r' (room i hi) fun b h' sb r2=>?_
   refine wpAny_pure ⟨plainId_quiet F.plain_set_update_loop _,ih (i+1) _ (by omega) hlt (W.frame _ s' _ _ st' (Nat.le_succ _) fun b hb o e=>?_) (by rw [qdi];exact r2) fun s2 mv2 r3=>?_⟩
   · rw [sb.2 b fun z=>out (z▸hb)];exact e
   · refine fin s2 (Moved.trans W.gtrans ((mv.mono sub).then_heap (Nat.le_succ _) fun b o hb e=>?_) mv2) r3
     rw [sb.2 b fun z=>hb (z▸List.mem_cons_self)];exact e
end
section
variable {prog:Program} {w:World} {A:Around} {E:Value→Shared→Prop} {s:Shared}
abbrev qdp (b:Bool):Obj:={ cls := .type "set",dict:=none,data := .set #[] 0 (.fresh 0 0 b) }
theorem qnb {h:Heap} {a:Addr} (e:h.get? a=some (qdp (!w.params.followText "set-order"))):RS prog w h a [] :=
 ⟨#[],0,_,e,fun _ z=>by simp at z,List.Perm.refl _,by show 0<4096;decide,rfl,List.Pairwise.nil,rfl,List.nodup_nil⟩
theorem qpo (v:Value) {Q₁:Value→Shared→Prop} (h:Q₁ (.ref s.heap.objs.size) { s with heap:=s.heap.push (qdp (!w.params.followText "set-order")) }) :
   codeAny (model prog w) A (.call (.builtin "set.__new__") ⟨[.type "set",v],[]⟩) (wants Q₁ E) s:=by
 refine codeAny_of_tree ?_
 refine wpAny_bind (m:=checkBuiltinCall "set.__new__" ⟨[.type "set",v],[]⟩) (wpAny_of_eq (F.newCall_set_1 v) (wpAny_pure ⟨plainId_quiet F.plain_set_new _,codeAny_builtin F.entry_set_new ?_⟩))
 rw [Around.under_plainId F.plain_set_new _]
 unfold Builtin.«set.__new__» Builtin.Frozenset.newClass
 have sub0:=sub_set_self
 obtain ⟨hp,g,d,tk,os⟩:=s
 dsimp only
 wp_walk
 refine wpAny_askSetting (wpAny_pure ?_)
 dsimp only
 simp only [newObj]
 exact wpAny_bind (wpAny_alloc (wpAny_pure (wpAny_pure h)))
set_option maxHeartbeats 3200000 in
theorem qk4 {l:Addr} {its:Array Value} {ns:List Int} {Q:Value→Shared→Prop} (hh:A.handled=none) (hl:s.heap.IsList l its) (hi:IntsAre its.toList ns) (room:∀i,i≤its.size→(qcB (fun i=>ns.getD i 0) i).length+1<scanBound)
   (h:∀(h':Heap) (tk:Nat),RS prog w h' s.heap.objs.size (qcB (fun i=>ns.getD i 0) its.size)→(∀b o,b<s.heap.objs.size→s.heap.get? b=some o→h'.get? b=some o)→Q (.ref s.heap.objs.size) { s with heap:=h',toks:=tk }) :
   wpAny (model prog w) A (call (.type "set") [.ref l]) Q E s:=by
 obtain ⟨c,tl,mro⟩:=F.called_set.mro
 have made:=F.called_set.made
 have sub1:=F.called_set.sub
 refine wpAny_call (codeAny_of_tree (wpAny_pure ⟨Code.quiet_builtin _ (by decide +kernel),codeAny_builtin F.entry_type_call ?_⟩))
 rw [Around.under_plain (weight_type_call_type "set" [.ref l] []) rfl]
 have nt:=F.called_set.notType
 have cc:=F.called_set.canCreate
 have tc:=F.typeCall_set_1 (.ref l)
 repeat (any_goals (first | assumption | wp_step))
 refine codeAny_mono (qpo (.ref l) (E:=E) (Q₁:=fun obj s₁=>obj = .ref s.heap.objs.size∧s₁={ s with heap:=s.heap.push (qdp (!w.params.followText "set-order")) }) ⟨rfl,rfl⟩) fun r s₁ hr=>?_
 cases r with
 | error e=>exact hr
 | ok fl =>
   cases fl with
   | ret obj =>
     obtain ⟨rfl,rfl⟩:=hr
     have g0:(s.heap.push (qdp (!w.params.followText "set-order"))).get? s.heap.objs.size=some (qdp (!w.params.followText "set-order")):=Heap.get?_push_size _ rfl
     have ty:Shared.TypeIs { s with heap:=s.heap.push (qdp (!w.params.followText "set-order")) } (.ref s.heap.objs.size) "set" := ⟨_,g0,rfl⟩
     have li:=F.called_set.init.lookup
     have bi:=F.called_set.init.bind (.ref s.heap.objs.size)
     repeat (any_goals (first | assumption | wp_step))
     refine codeAny_mono (codeAny_call_builtin (R:=wants (fun r s₂=>r = .none∧∃h' tk,s₂={ s with heap:=h',toks:=tk }∧RS prog w h' s.heap.objs.size (qcB (fun i=>ns.getD i 0) its.size) ∧
         (∀b o,b<s.heap.objs.size→s.heap.get? b=some o→h'.get? b=some o)) E) F.called_set.init.plain F.entry_set_init (check_set_init_1 ty ?_)) fun r₂ s₂ hr₂=>?_
     · obtain ⟨⟨oc,od,ot,osl⟩,e0,ec,nl,ed⟩:=hl
       simp only at ec ed
       subst ec ed
       have e1:(s.heap.push (qdp (!w.params.followText "set-order"))).get? l=some ⟨.type "list",od,.seq its nl,osl⟩:=Heap.get?_push_of_some _ e0
       have q1:=F.sub_list_set
       have q2:=F.sub_list_frozenset
       have q3:(Value.type "list" == Value.type "dict")=false:=by decide
       have il:(s.heap.push (qdp (!w.params.followText "set-order"))).IsList l its:=⟨_,e1,rfl,nl,rfl⟩
       unfold Builtin.«set.__init__» noKeywords Builtin.Frozenset.updateFrom
       generalize pI:pyIter=PIt
       wp_walk
       subst pI
       refine wpAny_pyIter_list il (wpAny_bind (wpAny_runValue ?_))
       have hlt:l<s.heap.objs.size:=Heap.lt_size e0
       have hh3:A.in1.in1.in1.handled=none:=by simp [hh]
       have ne1:l≠(s.heap.push (qdp (!w.params.followText "set-order"))).objs.size:=by
         rw [Heap.size_push]
         exact Nat.ne_of_lt (Nat.lt_succ_of_lt hlt)
       have ne2:s.heap.objs.size∉[(s.heap.push (qdp (!w.params.followText "set-order"))).objs.size,l]:=by
         rw [Heap.size_push]
         simp only [List.mem_cons,List.not_mem_nil,or_false,not_or]
         exact And.intro (Nat.ne_of_lt (Nat.lt_succ_self _)) (Nat.ne_of_gt hlt)
       refine qkY ((Walks.list hh3 _ l ne1 its).toS) s.heap.objs.size ne2 (fun i=>ns.getD i 0) (fun i v e=>IntsAre.int_at hi i v (by rw [Array.getElem?_toList];exact e)) room (its.size-0) 0 _ (by omega) (Nat.zero_le _)
         ⟨⟨_,Heap.get?_push_size _ rfl,rfl,rfl⟩,il.push _⟩ (qnb (Heap.get?_push_of_some _ g0)) ?_
       intro s' mv r'
       obtain ⟨h',g',d',tk',os'⟩:=s'
       have eg:g'=s.gens:=mv.gens
       have ed:d'=s.drawn:=mv.drawn
       have eo:os'=s.os:=mv.os
       subst eg ed eo
       refine wpAny_pure (wpAny_pure ⟨rfl,h',tk',rfl,r',fun b o hb e=>?_⟩)
       refine mv.heap b o ?_ (Heap.get?_push_of_some _ (Heap.get?_push_of_some _ e))
       rw [Heap.size_push]
       simp only [List.mem_cons,List.not_mem_nil,or_false,not_or]
       exact And.intro (Nat.ne_of_lt hb) (Nat.ne_of_lt (Nat.lt_succ_of_lt hb))
     · cases r₂ with
       | error e=>exact hr₂
       | ok fl₂ =>
         cases fl₂ with
         | ret r =>
           obtain ⟨rfl,h',tk,rfl,r',kp⟩:=hr₂
           repeat (any_goals (first | assumption | wp_step))
           exact h _ _ r' kp
         | _=>exact hr₂.elim
   | _=>exact hr.elim
end
end STb
namespace STb
open PySem PySem.SetTable PyProof.Rows
theorem qbM:Slot "set_iterator" "__next__" "set_iterator.__next__" :=
 Slot.of (owner := "set_iterator") (n := "__next__") (by (rw [typeLookup_type,builtinLookup_eq_fast]);kernel_rfl) (by decide +kernel) (by decide +kernel) (by decide +kernel) (by first | (exact Or.inl (by decide +kernel)) | (exact Or.inr (by decide +kernel))) (by (rw [isSubtype_type]);kernel_rfl)
theorem qeW:entryFor table "set_iterator.__next__" = some Builtin.«set_iterator.__next__»:=entryFor_of_tree (by kernel_rfl)
theorem qhf (a:Value):argsOk "set_iterator.__next__" ⟨[a],[]⟩:=by unfold argsOk;kernel_rfl
theorem qjG:entryFor table "set.__iter__" = some Builtin.«frozenset.__iter__»:=entryFor_alias (id' := "frozenset.__iter__") (by kernel_rfl) (by decide +kernel) (by decide +kernel) (by kernel_rfl)
theorem qeh {α:Type}:∀(l:List α) (i:Nat) (h:i<l.length),(l[i]::l.eraseIdx i).Perm l
 | [],i,h=>by cases h
 | x::r,0,h=>List.Perm.refl _
 | x::r,i+1,h=>(List.Perm.swap _ _ _).trans (List.Perm.cons _ (qeh r i (Nat.lt_of_succ_lt_succ h)))
theorem qh5:typeLookup (.type "set") "__len__" = pure (some (.builtin "set.__len__")):=by (rw [typeLookup_type,builtinLookup_eq_fast]);kernel_rfl
theorem qiM:isSubtype (.type "set") (.type "set")=pure true:=by (rw [isSubtype_type]);kernel_rfl
theorem qk1 {α:Type} (nx:Nat→Nat):∀(fuel k:Nat) (left:List α) (out:Array α),left.length=fuel→(pickOrder.go nx fuel k left out).toList.Perm (out.toList++left)
 | 0,k,left,out,h=>by
   rw [pickOrder.go]
   rw [List.length_eq_zero_iff.mp h,List.append_nil]
 | fuel+1,k,left,out,h=>by
   rw [pickOrder.go]
   have hlt:nx k%left.length<left.length:=Nat.mod_lt _ (by omega)
   rw [List.getElem?_eq_getElem hlt]
   dsimp only
   refine (qk1 nx fuel (k+1) _ _ (by rw [List.length_eraseIdx_of_lt hlt];omega)).trans ?_
   rw [Array.toList_push,List.append_assoc]
   refine List.Perm.append_left _ ?_
   exact qeh left _ hlt
theorem qfz {α:Type} (nx:Nat→Nat) (xs:Array α):(pickOrder nx xs).toList.Perm xs.toList:=by
 have:=qk1 nx xs.size 0 xs.toList #[] (by simp)
 simpa [pickOrder] using this
section
variable {prog:Program} {w:World} {A:Around} {E:Value→Shared→Prop} {s:Shared}
theorem qkO {src:Source} {n:Nat} {Q:Nat→Shared→Prop} (hn:n≠0) (h:∀i d,i<n→Q i { s with drawn:=d }):wpAny (model prog w) A (choose src n) Q E s :=
 fun Γ p _=>⟨hn,h _ _ (Nat.mod_lt _ (Nat.pos_of_ne_zero hn))⟩
theorem qln:∀(n:Nat) (xs:List Nat) (s:Shared) (Q:List Nat→Shared→Prop),xs.length=n→(∀ys d,ys.Perm xs→Q ys { s with drawn:=d })→wpAny (model prog w) A (drawOrder n xs) Q E s
 | 0,xs,s,Q,h,q=>by
   rw [List.length_eq_zero_iff.mp h] at q ⊢
   exact wpAny_pure (q [] s.drawn (List.Perm.refl _))
 | n+1,[],s,Q,h,q=>by cases h
 | n+1,x::r,s,Q,h,q=>by
   refine wpAny_bind (m:=choose .order (x::r).length) (qkO (by simp) fun i d hi=>?_)
   rw [List.getElem?_eq_getElem hi]
   dsimp only
   refine wpAny_bind (qln n ((x::r).eraseIdx i) _ _ (by rw [List.length_eraseIdx_of_lt hi];simp at h ⊢;exact h) fun ys d' hp=>?_)
   exact wpAny_pure (q _ d' ((List.Perm.cons _ hp).trans (qeh _ _ hi)))
theorem qdG {Q:Bool→Shared→Prop} (h:Q (w.params.followText "set-order") s):wpAny (model prog w) A setsByText Q E s:=by
 unfold setsByText
 exact wpAny_bind (wpAny_askSetting (wpAny_pure h))
end
end STb
namespace STb
open PySem PySem.SetTable PyProof.Rows
abbrev qi5 (first:Value) (i:Nat) (S:Addr) (n ep:Nat):Obj:={ cls := .type "set_iterator",data := .fields #[first,.int i 0,.ref S,.int n 0,.int ep 0] }
abbrev qeP (es:Array (Int×Value)) (ep:Nat) (t:SetTable):Obj:={ cls := .type "set",dict:=none,data := .set es ep t }
section
variable {prog:Program} {w:World} {A:Around} {E:Value→Shared→Prop} {s:Shared} {I S:Addr} {es:Array (Int×Value)} {ep:Nat} {t:SetTable}
theorem qcE {Q:Array (Int×Value)→Shared→Prop} (ho:s.heap.get? S=some (qeP es ep t)) (hf:t.fits es.size=true) (h:Q es s):wpAny (model prog w) A (setEntries S) Q E s:=by
 unfold setEntries
 exact wpAny_bind (wpAny_setState_of ho rfl hf (wpAny_pure h))
end
end STb
namespace STb
open PySem PySem.SetTable PyProof.Rows
section
variable {prog:Program} {w:World} {A:Around} {E:Value→Shared→Prop} {s:Shared} {I S:Addr} {es:Array (Int×Value)} {ep:Nat} {t:SetTable}
theorem qkF {α:Type} {Q:α→Shared→Prop} {E':Value→Shared→Prop} (hh:A.handled=none)
   (h:∀h' e,(∀b o,s.heap.get? b=some o→h'.get? b=some o)→Shared.TypeIs { s with heap:=h' } (.ref e) "StopIteration" → E' (.ref e) { s with heap:=h' }) :
   wpAny (model prog w) A (do raiseNew (←newExc (.type "StopIteration") []):Sem α) Q E' s:=by
 refine wpAny_bind ?_
 simp only [newExc,newTuple]
 refine wpAny_bind (wpAny_newObj_type ?_ (by size_fits))
 refine wpAny_bind (m:=firstArgMember _ _) (wpAny_of_eq (a:=Value.none) (by first | rfl | (simp only [firstArgMember];rfl)) ?_)
 refine wpAny_newObj_type ?_ (by size_fits)
 simp only [raiseNew]
 refine wpAny_bind (wpAny_handled ?_)
 rw [hh]
 refine wpAny_bind (wpAny_pure (wpAny_throw ?_))
 exact h _ _ (fun b o e=>Heap.get?_push_of_some _ (Heap.get?_push_of_some _ e)) ⟨_,Heap.get?_push_size _ rfl,rfl⟩
theorem qhC {slot:Nat} {i:Nat} {Q:Option Value→Shared→Prop} (hh:A.handled=none) (hI:s.heap.get? I=some (qi5 (.int slot 0) i S es.size ep)) (hS:s.heap.get? S=some (qeP es ep t)) (hf:t.fits es.size=true)
   (hn:∀(A':Around) (E':Value→Shared→Prop) (Q':Option (Value×Nat)→Shared→Prop),Q' none s→wpAny (model prog w) A' (setNext S slot i ep) Q' E' s)
   (h:∀h',(∀b o,b≠I→s.heap.get? b=some o→h'.get? b=some o)→Q none { s with heap:=h' }):wpAny (model prog w) A (pyNext (.ref I)) Q E s:=by
 have ty:s.TypeIs (.ref I) "set_iterator" := ⟨_,hI,rfl⟩
 unfold pyNext
 refine wpAny_bind (wpAny_attempt (wpAny_callSpecial?_slot (name:=Str.ofString "__next__") ty qbM (wpAny_call_entry qbM ty qeW ?_ (qhf _))))
 unfold Builtin.«set_iterator.__next__»
 refine wpAny_bind (m:=slotArgs "__next__" 0 ⟨[.ref I],[]⟩) (wpAny_pure (wpAny_bind (wpAny_fieldsOf hI rfl ?_)))
 refine wpAny_bind (m:=setEntries S) (qcE hS hf ?_)
 rw [if_neg (by simp)]
 refine wpAny_bind (m:=setNext S (slot:Int).toNat (i:Int).toNat (ep:Int).toNat) (hn _ _ _ ?_)
 refine wpAny_bind (wpAny_setField hI rfl (by simp) ?_)
 refine qkF (by first | exact hh | simp [hh]) fun h' e kp tye=>?_
 refine wpAny_bind (wpAny_isInstance (T := "StopIteration") (b:=true) tye isSubtype_stop ?_)
 exact wpAny_pure (h _ fun b o hb q=>kp b o ((Heap.get?_update_other _ _ (Ne.symm hb)).trans q))
theorem qmm {T:Addr} {qcl:Array Value} {pn:Nat} {i p:Nat} {tk:Tok} {Q:Option Value→Shared→Prop} (hI:s.heap.get? I=some (qi5 (.ref T) i S es.size ep)) (hT:s.heap.get? T=some { cls := .type "tuple",data := .seq qcl pn })
   (hS:s.heap.get? S=some (qeP es ep t)) (hf:t.fits es.size=true) (hp:qcl[i]?=some (.int p tk)) {x:Int×Value} (hx:es[p]?=some x)
   (h:∀h',h'.get? I=some (qi5 (.ref T) (i+1) S es.size ep)→Heap.SameBut I s.heap h'→Q (some x.2) { s with heap:=h' }):wpAny (model prog w) A (pyNext (.ref I)) Q E s:=by
 have ty:s.TypeIs (.ref I) "set_iterator" := ⟨_,hI,rfl⟩
 unfold pyNext
 refine wpAny_bind (wpAny_attempt (wpAny_callSpecial?_slot (name:=Str.ofString "__next__") ty qbM (wpAny_call_entry qbM ty qeW ?_ (qhf _))))
 unfold Builtin.«set_iterator.__next__»
 refine wpAny_bind (m:=slotArgs "__next__" 0 ⟨[.ref I],[]⟩) (wpAny_pure (wpAny_bind (wpAny_fieldsOf hI rfl ?_)))
 refine wpAny_bind (m:=setEntries S) (qcE hS hf ?_)
 rw [if_neg (by simp)]
 refine wpAny_bind (m:=seqItems? (.ref T)) (wpAny_seqItems hT rfl ?_)
 dsimp only
 rw [show qcl[(i:Int).toNat]?=some (.int p tk) from hp]
 dsimp only
 refine wpAny_bind (m:=setNextDrawn S (p:Int).toNat (ep:Int).toNat) ?_
 unfold setNextDrawn
 refine wpAny_bind (wpAny_setState_of hS rfl hf ?_)
 dsimp only
 rw [if_neg (by simp),show es[(p:Int).toNat]?=some x from hx]
 refine wpAny_pure (wpAny_bind (wpAny_setField hI rfl (by simp) ?_))
 have g1:=Heap.get?_update_self (Obj.mapFields (·.setIfInBounds 1 (rawInt ((i:Int)+1)))) hI rfl
 exact wpAny_pure ⟨_,rfl,wpAny_pure (h _ g1 (Heap.SameBut.update ..))⟩
theorem qh6 {T:Addr} {qcl:Array Value} {pn:Nat} {i:Nat} {Q:Option Value→Shared→Prop} (hh:A.handled=none) (hI:s.heap.get? I=some (qi5 (.ref T) i S es.size ep)) (hT:s.heap.get? T=some { cls := .type "tuple",data := .seq qcl pn })
   (hS:s.heap.get? S=some (qeP es ep t)) (hf:t.fits es.size=true) (hp:qcl[i]?=none)
   (h:∀h',(∀b o,b≠I→s.heap.get? b=some o→h'.get? b=some o)→Q none { s with heap:=h' }):wpAny (model prog w) A (pyNext (.ref I)) Q E s:=by
 have ty:s.TypeIs (.ref I) "set_iterator" := ⟨_,hI,rfl⟩
 unfold pyNext
 refine wpAny_bind (wpAny_attempt (wpAny_callSpecial?_slot (name:=Str.ofString "__next__") ty qbM (wpAny_call_entry qbM ty qeW ?_ (qhf _))))
 unfold Builtin.«set_iterator.__next__»
 refine wpAny_bind (m:=slotArgs "__next__" 0 ⟨[.ref I],[]⟩) (wpAny_pure (wpAny_bind (wpAny_fieldsOf hI rfl ?_)))
 refine wpAny_bind (m:=setEntries S) (qcE hS hf ?_)
 rw [if_neg (by simp)]
 refine wpAny_bind (m:=seqItems? (.ref T)) (wpAny_seqItems hT rfl ?_)
 dsimp only
 rw [show qcl[(i:Int).toNat]?=none from hp]
 dsimp only
 refine wpAny_bind (wpAny_setField hI rfl (by simp) ?_)
 have g1:=Heap.get?_update_self (Obj.mapFields (·.setIfInBounds 0 (rawInt 0))) hI rfl
 refine wpAny_bind (wpAny_setField g1 rfl (by simp [Obj.mapFields]) ?_)
 refine qkF (by first | exact hh | simp [hh]) fun h' e kp tye=>?_
 refine wpAny_bind (wpAny_isInstance (T := "StopIteration") (b:=true) tye isSubtype_stop ?_)
 exact wpAny_pure (h _ fun b o hb q=>kp b o ((Heap.get?_update_other _ _ (Ne.symm hb)).trans ((Heap.get?_update_other _ _ (Ne.symm hb)).trans q)))
theorem qeC {slot i:Nat} {Q:Option (Value×Nat)→Shared→Prop} (hS:s.heap.get? S=some (qeP es ep t)) (hf:t.fits es.size=true) (bt:w.params.followText "set-order" = true)
   (h:Q (((pickOrder (w.params.setOrder S ep) es)[i]?).map fun e=>(e.2,slot)) s):wpAny (model prog w) A (setNext S slot i ep) Q E s:=by
 unfold setNext
 refine wpAny_bind (wpAny_setState_of hS rfl hf (wpAny_bind (qdG ?_)))
 rw [bt,if_pos rfl,if_neg (by simp)]
 refine wpAny_bind ?_
 unfold setWalk
 refine wpAny_bind (wpAny_setState_of hS rfl hf (wpAny_bind (qdG ?_)))
 rw [bt,if_pos rfl]
 exact wpAny_bind (wpAny_askSetting (wpAny_pure (wpAny_pure h)))
theorem qdX {slot i:Nat} {Q:Option (Value×Nat)→Shared→Prop} (hS:s.heap.get? S=some (qeP es ep t)) (hf:t.fits es.size=true) (bt:w.params.followText "set-order" = false) (ld:t.led=true) (dr:(!t.plain&&decide (es.size>1))=false)
   (h:Q (match es[SetTable.below t.place slot]?,t.place[SetTable.below t.place slot]? with | some (_,x),some j=>some (x,j+1) | _,_=>none) s):wpAny (model prog w) A (setNext S slot i ep) Q E s:=by
 unfold setNext
 refine wpAny_bind (wpAny_setState_of hS rfl hf (wpAny_bind (qdG ?_)))
 rw [bt,if_neg (by simp)]
 dsimp only
 split
 · rename_i z
   exfalso
   have z':(!t.plain&&decide (es.size>1))=true:=z
   rw [dr] at z'
   cases z'
 · show wpAny (model prog w) A ((if (!t.led&&!es.isEmpty)=true then unsupported "set:maker-not-led" else pure ()) >>= fun _=>pure _) Q E s
   rw [ld,if_neg (by simp)]
   exact wpAny_bind (wpAny_pure (wpAny_pure h))
end
end STb
namespace STb
open PySem PySem.SetTable PyProof.Rows
section
variable {prog:Program} {w:World} {A:Around} {E:Value→Shared→Prop} {s:Shared} {I S:Addr} {es:Array (Int×Value)} {ep:Nat} {t:SetTable}
theorem qme {wr:List Addr} {h':Heap} (k:∀b o,b∉wr→s.heap.get? b=some o→h'.get? b=some o):Moved wr Eq s { s with heap:=h' }:=⟨k,rfl,rfl,rfl,Nat.le_refl _⟩
theorem qkG {first:Value} {i n:Nat} {Q:Value→Shared→Prop} (hI:s.heap.get? I=some (qi5 first i S n ep)) (h:Q (.ref I) s):wpAny (model prog w) A (pyIter (.ref I)) Q E s:=by
 have ty:s.TypeIs (.ref I) "set_iterator" := ⟨_,hI,rfl⟩
 have sl:Slot "set_iterator" "__iter__" "set_iterator.__iter__" :=
   Slot.of (owner := "set_iterator") (n := "__iter__") (by (rw [typeLookup_type,builtinLookup_eq_fast]);kernel_rfl) (by decide +kernel) (by decide +kernel) (by decide +kernel) (by first | (exact Or.inl (by decide +kernel)) | (exact Or.inr (by decide +kernel))) (by (rw [isSubtype_type]);kernel_rfl)
 have en:entryFor table "set_iterator.__iter__" = some Builtin.«dict_keyiterator.__iter__»:=entryFor_alias (id' := "dict_keyiterator.__iter__") (by kernel_rfl) (by decide +kernel) (by decide +kernel) (by kernel_rfl)
 refine wpAny_pyIter_slot ty sl (wpAny_call_entry sl ty en ?_ (by unfold argsOk;kernel_rfl))
 unfold Builtin.«dict_keyiterator.__iter__»
 first
   | exact wpAny_bind (wpAny_pure (wpAny_pure ⟨_,rfl, "set_iterator",_,ty,qbM.lookup,h⟩))
   | exact wpAny_pure ⟨_,rfl, "set_iterator",_,ty,qbM.lookup,h⟩
theorem qju (hh:A.handled=none) (hIS:I≠S) (hf:t.fits es.size=true) (out:List Value) (ho:out.length=es.size) (ok:Nat→Nat→Prop)
   (hn:∀(s:Shared) (A':Around) (E':Value→Shared→Prop) (Q':Option (Value×Nat)→Shared→Prop) (i slot:Nat) (x:Value),s.heap.get? S=some (qeP es ep t)→ok i slot→out[i]?=some x →
     ∃nx,ok (i+1) nx∧(Q' (some (x,nx)) s→wpAny (model prog w) A' (setNext S slot i ep) Q' E' s))
   (he:∀(s:Shared) (A':Around) (E':Value→Shared→Prop) (Q':Option (Value×Nat)→Shared→Prop) (slot:Nat),s.heap.get? S=some (qeP es ep t)→ok es.size slot→Q' none s→wpAny (model prog w) A' (setNext S slot es.size ep) Q' E' s) :
   WalksS prog w A I [I,S] [I] Eq es.size (fun i v=>out[i]?=some v) (fun i s=>(∃slot:Nat,s.heap.get? I=some (qi5 (.int (slot:Int) 0) i S es.size ep)∧ok i slot)∧s.heap.get? S=some (qeP es ep t)) where
 sub:=fun b hb=>by simp at hb;simp [hb]
 grefl:=fun _=>rfl
 gtrans:=fun _ _ _ h1 h2=>h1.trans h2
 frame:=fun i s h' tk st _ k=>by
   obtain ⟨⟨slot,e,o⟩,e2⟩:=st
   exact ⟨⟨slot,k I (by simp) _ e,o⟩,k S (by simp) _ e2⟩
 item:=fun i s Q E hi st q=>by
   obtain ⟨⟨slot,e,o⟩,e2⟩:=st
   have hx:out[i]?=some out[i]:=List.getElem?_eq_getElem (by omega)
   obtain ⟨nx,o',_⟩:=hn s A E (fun _ _=>True) i slot _ e2 o hx
   have hn':∀(A':Around) (E':Value→Shared→Prop) (Q':Option (Value×Nat)→Shared→Prop),∃nx,ok (i+1) nx∧(Q' (some (out[i],nx)) s→wpAny (model prog w) A' (setNext S slot i ep) Q' E' s):=fun A' E' Q'=>hn s A' E' Q' i slot _ e2 o hx
   unfold pyNext
   have ty:s.TypeIs (.ref I) "set_iterator" := ⟨_,e,rfl⟩
   refine wpAny_bind (wpAny_attempt (wpAny_callSpecial?_slot (name:=Str.ofString "__next__") ty qbM (wpAny_call_entry qbM ty qeW ?_ (qhf _))))
   unfold Builtin.«set_iterator.__next__»
   refine wpAny_bind (m:=slotArgs "__next__" 0 ⟨[.ref I],[]⟩) (wpAny_pure (wpAny_bind (wpAny_fieldsOf e rfl ?_)))
   refine wpAny_bind (m:=setEntries S) (qcE e2 hf ?_)
   rw [if_neg (by simp)]
   refine wpAny_bind (m:=setNext S (slot:Int).toNat (i:Int).toNat (ep:Int).toNat) ?_
   obtain ⟨nx,o',go⟩:=hn' _ _ _
   refine go ?_
   refine wpAny_bind (wpAny_setField e rfl (by simp) ?_)
   have g1:=Heap.get?_update_self (Obj.mapFields (·.setIfInBounds 0 (rawInt nx))) e rfl
   refine wpAny_bind (wpAny_setField g1 rfl (by simp [Obj.mapFields]) ?_)
   have g2:=Heap.get?_update_self (Obj.mapFields (·.setIfInBounds 1 (rawInt ((i:Int)+1)))) g1 rfl
   have kp:∀b o,b≠I→s.heap.get? b=some o→((s.heap.update I (Obj.mapFields (·.setIfInBounds 0 (rawInt nx)))).update I (Obj.mapFields (·.setIfInBounds 1 (rawInt ((i:Int)+1))))).get? b=some o:=fun b o hb z =>
     (Heap.get?_update_other _ _ (Ne.symm hb)).trans ((Heap.get?_update_other _ _ (Ne.symm hb)).trans z)
   exact wpAny_pure ⟨_,rfl,wpAny_pure (q _ _ hx ⟨⟨nx,g2,o'⟩,kp S _ (Ne.symm hIS) e2⟩ (qme fun b o hb z=>kp b o (fun y=>hb (by simp [y])) z))⟩
 done:=fun s Q E st q=>by
   obtain ⟨⟨slot,e,o⟩,e2⟩:=st
   exact qhC hh e e2 hf (fun A' E' Q' q'=>he s A' E' Q' slot e2 o q') fun h' kp=>q _ (qme fun b o hb z=>kp b o (fun y=>hb (by simp [y])) z)
 self:=fun i s Q E st q=>by
   obtain ⟨⟨slot,e,o⟩,e2⟩:=st
   exact qkG e q
theorem qmV {T:Addr} {qcl:List Nat} {pn:Nat} (hh:A.handled=none) (hIS:I≠S) (hIT:I≠T) (hf:t.fits es.size=true) (out:List Value) (hl:qcl.length=es.size) (ho:∀(i p:Nat),qcl[i]?=some p→∃x,es[p]?=some x∧out[i]?=some x.2) :
   WalksS prog w A I [I,S,T] [I] Eq es.size (fun i v=>out[i]?=some v) (fun i s=>s.heap.get? I=some (qi5 (.ref T) i S es.size ep)∧s.heap.get? S=some (qeP es ep t)∧s.heap.get? T=some { cls := .type "tuple",data := .seq (qcl.map fun (p:Nat)=>rawInt p).toArray pn }) where
 sub:=fun b hb=>by simp at hb;simp [hb]
 grefl:=fun _=>rfl
 gtrans:=fun _ _ _ h1 h2=>h1.trans h2
 frame:=fun i s h' tk st _ k=>by
   obtain ⟨e,e2,e3⟩:=st
   exact ⟨k I (by simp) _ e,k S (by simp) _ e2,k T (by simp) _ e3⟩
 item:=fun i s Q E hi st q=>by
   obtain ⟨e,e2,e3⟩:=st
   have hp:qcl[i]?=some qcl[i]:=List.getElem?_eq_getElem (by omega)
   obtain ⟨x,hx,hy⟩:=ho i _ hp
   refine qmm (p:=qcl[i]) (tk:=0) e e3 e2 hf (by rw [List.getElem?_toArray,List.getElem?_map,hp];rfl) hx fun h' g sb=>?_
   exact q _ _ hy ⟨g,sb.extBut _ _ (Ne.symm hIS) e2,sb.extBut _ _ (Ne.symm hIT) e3⟩ (qme fun b o hb z=>sb.extBut b o (fun y=>hb (by simp [y])) z)
 done:=fun s Q E st q=>by
   obtain ⟨e,e2,e3⟩:=st
   exact qh6 hh e e3 e2 hf (by simp [hl]) fun h' kp=>q _ (qme fun b o hb z=>kp b o (fun y=>hb (by simp [y])) z)
 self:=fun i s Q E st q=>qkG st.1 q
end
end STb
namespace STb
open PySem PySem.SetTable PyProof.Rows
section
variable {prog:Program} {w:World} {A:Around} {E:Value→Shared→Prop} {s:Shared} {I S:Addr} {es:Array (Int×Value)} {ep:Nat} {t:SetTable}
theorem qm8 {Q:Bool→Shared→Prop} (hS:s.heap.get? S=some (qeP es ep t)) (hf:t.fits es.size=true) (h:Q (!w.params.followText "set-order" && (!t.plain&&decide (es.size>1))) s):wpAny (model prog w) A (setDrawn S) Q E s:=by
 unfold setDrawn
 exact wpAny_bind (wpAny_setState_of hS rfl hf (wpAny_bind (qdG (wpAny_pure h))))
theorem qhG:Slot "set" "__iter__" "set.__iter__" := PySem.F.slot_set_iter
theorem qps {ns:List Int} {Q:Value→Shared→Prop} (hh:A.handled=none) (r:RS prog w s.heap S ns)
   (h:∀(I:Addr) (fp:List Addr) (n:Nat) (out:List Value) (ms:List Int) (St:Nat→Shared→Prop) (s':Shared),(∀A':Around,A'.handled=none→WalksS prog w A' I fp [I] Eq n (fun i v=>out[i]?=some v) St)→St 0 s'→I∈fp→(∀b∈fp,b<s'.heap.objs.size)→(∀b∈fp,b=S∨s.heap.objs.size≤b)→s.heap.objs.size≤I →
     IntsAre out ms→ms.Perm ns→out.length=n→(∀b o,s.heap.get? b=some o→s'.heap.get? b=some o)→s'.gens=s.gens→s'.os=s.os→s.toks≤s'.toks→Q (.ref I) s') :
   wpAny (model prog w) A (pyIter (.ref S)) Q E s:=by
 obtain ⟨es,ep,t,hS,el,pm,bd,ft,rs,ld,nd⟩:=r
 have ty:s.TypeIs (.ref S) "set" := ⟨_,hS,rfl⟩
 have intsOf:∀l:List (Int×Value),(∀e∈l,∃k,kI e.2=some k)→∃ms,IntsAre (l.map (·.2)) ms∧l.map (fun e=>kI e.2)=ms.map some:=fun l=>by
   induction l with
   | nil=>intro _;exact ⟨[],.nil,rfl⟩
   | cons e l ih =>
     intro q
     obtain ⟨ms,a,b⟩:=ih fun x hx=>q x (List.mem_cons_of_mem _ hx)
     obtain ⟨k,hk⟩:=q e List.mem_cons_self
     obtain ⟨hsh,v⟩:=e
     cases v<;>first
       | (rename_i m tk;cases hk;exact ⟨_::ms,.cons _ _ a,by rw [List.map_cons,List.map_cons,b];rfl⟩)
       | cases hk
 have allk:∀e∈es.toList,∃k,kI e.2=some k:=fun e he=>by
   obtain ⟨⟨k,q,_⟩,_⟩:=el e he
   exact ⟨k,qoW.mp q⟩
 have perm:∀l:List (Int×Value),l.Perm es.toList→∃ms,IntsAre (l.map (·.2)) ms∧ms.Perm ns:=fun l hp=>by
   obtain ⟨ms,a,b⟩:=intsOf l fun e he=>allk e (hp.mem_iff.mp he)
   refine ⟨ms,a,?_⟩
   have q:(ms.map some).Perm (ns.map some):=by
     rw [←b]
     exact (hp.map _).trans pm
   have q':=q.map (fun o:Option Int=>o.getD 0)
   simpa [List.map_map,Function.comp_def] using q'
 have plc:t.place.size=es.size:=by
   simp only [SetTable.fits,Bool.and_eq_true,beq_iff_eq] at ft
   exact ft.1
 refine wpAny_pyIter_slot ty qhG (wpAny_call_entry qhG ty qjG ?_ (PySem.F.args_set_iter_1 _))
 unfold Builtin.«frozenset.__iter__»
 refine wpAny_bind (m:=Builtin.Frozenset.slot0 "__iter__" ⟨[.ref S],[]⟩) (wpAny_bind (wpAny_pure (wpAny_pure ?_)))
 refine wpAny_bind (m:=Builtin.Frozenset.sizeOf S) (wpAny_bind (qcE hS ft (wpAny_pure ?_)))
 refine wpAny_bind (m:=setDrawn S) (qm8 hS ft ?_)
 have hlt:S<s.heap.objs.size:=Heap.lt_size hS
 cases bt:w.params.followText "set-order" with
 | true =>
   rw [if_neg (by simp)]
   refine wpAny_bind (wpAny_pure (wpAny_bind (wpAny_setEpoch_of hS rfl ft (wpAny_bind (wpAny_newObj_type (wpAny_pure ⟨_,rfl, "set_iterator",_,⟨_,Heap.get?_push_size _ rfl,rfl⟩,qbM.lookup,?_⟩))))))
   obtain ⟨ms,a,b⟩:=perm _ (qfz (w.params.setOrder S ep) es)
   have lo:((pickOrder (w.params.setOrder S ep) es).toList.map (·.2)).length=es.size:=by rw [List.length_map,(qfz _ _).length_eq,Array.length_toList]
   refine h s.heap.objs.size [s.heap.objs.size,S] es.size _ ms _ _ (fun A' hA'=>qju (t:=t) (ep:=ep) hA' (Nat.ne_of_gt hlt) ft _ lo (fun _ _=>True) (fun s A' E' Q' i slot x e _ hx=>⟨slot,trivial,fun q=>qeC e ft bt ?_⟩) fun s A' E' Q' slot e _ q=>qeC e ft bt ?_)
     ⟨⟨0,Heap.get?_push_size _ rfl,trivial⟩,Heap.get?_push_of_some _ hS⟩ (by simp) (fun b hb=>?_) (fun b hb=>(List.mem_cons.mp hb).elim (fun z => .inr (Nat.le_of_eq z.symm)) fun z => .inl (List.mem_singleton.mp z)) (Nat.le_refl _) a b lo (fun b o e=>Heap.get?_push_of_some _ e) rfl rfl (Nat.le_refl _)
   · rw [List.getElem?_map,Array.getElem?_toList] at hx
     cases z:(pickOrder (w.params.setOrder S ep) es)[i]? with
     | none=>rw [z] at hx;cases hx
     | some y=>rw [z] at hx;cases hx;exact q
   · rw [Array.getElem?_eq_none (by rw [←Array.length_toList,(qfz _ _).length_eq,Array.length_toList];exact Nat.le_refl _)]
     exact q
   · rw [Heap.size_push]
     rcases List.mem_cons.mp hb with z | z
     · rw [z];exact Nat.lt_succ_self _
     · rw [List.mem_singleton.mp z];exact Nat.lt_succ_of_lt hlt
 | false =>
   rw [bt] at ld
   cases dr:(!t.plain&&decide (es.size>1)) with
   | false =>
     rw [if_neg (by simp)]
     refine wpAny_bind (wpAny_pure (wpAny_bind (wpAny_setEpoch_of hS rfl ft (wpAny_bind (wpAny_newObj_type (wpAny_pure ⟨_,rfl, "set_iterator",_,⟨_,Heap.get?_push_size _ rfl,rfl⟩,qbM.lookup,?_⟩))))))
     obtain ⟨ms,a,b⟩:=perm _ (List.Perm.refl _)
     have lo:(es.toList.map (·.2)).length=es.size:=by rw [List.length_map,Array.length_toList]
     refine h s.heap.objs.size [s.heap.objs.size,S] es.size _ ms _ _ (fun A' hA'=>qju (t:=t) (ep:=ep) hA' (Nat.ne_of_gt hlt) ft _ lo (fun i slot=>SetTable.below t.place slot=i) (fun s A' E' Q' i slot x e o hx=>?_) fun s A' E' Q' slot e o q=>qdX e ft bt ld dr ?_)
       ⟨⟨0,Heap.get?_push_size _ rfl,qj3 rs⟩,Heap.get?_push_of_some _ hS⟩ (by simp) (fun b hb=>?_) (fun b hb=>(List.mem_cons.mp hb).elim (fun z => .inr (Nat.le_of_eq z.symm)) fun z => .inl (List.mem_singleton.mp z)) (Nat.le_refl _) a b lo (fun b o e=>Heap.get?_push_of_some _ e) rfl rfl (Nat.le_refl _)
     · rw [List.getElem?_map,Array.getElem?_toList] at hx
       have hi:i<es.size:=by
         rcases Nat.lt_or_ge i es.size with z | z
         · exact z
         · rw [Array.getElem?_eq_none z] at hx;cases hx
       have hp:t.place[i]?=some t.place[i]:=by simp [plc,hi]
       refine ⟨t.place[i]+1,qjJ rs hp,fun q=>qdX e ft bt ld dr ?_⟩
       rw [o,hp]
       cases z:es[i]? with
       | none=>rw [z] at hx;cases hx
       | some y=>rw [z] at hx;cases hx;exact q
     · rw [o,Array.getElem?_eq_none (Nat.le_refl _)]
       exact q
     · rw [Heap.size_push]
       rcases List.mem_cons.mp hb with z | z
       · rw [z];exact Nat.lt_succ_self _
       · rw [List.mem_singleton.mp z];exact Nat.lt_succ_of_lt hlt
   | true =>
     rw [if_pos (by simp)]
     refine wpAny_bind (qln es.size (List.range es.size) s _ (by simp) fun ys d hp=>wpAny_bind ?_)
     have ly:ys.length=es.size:=by rw [hp.length_eq];simp
     refine wpAny_newTuple ?_ (by rw [List.length_map,ly];exact fits_of_scanBound bd)
     refine wpAny_bind (wpAny_setEpoch_of (o:=qeP es ep t) (Heap.get?_push_of_some _ hS) rfl ft (wpAny_bind (wpAny_newObj_type (wpAny_pure ⟨_,rfl, "set_iterator",_,⟨_,Heap.get?_push_size _ rfl,rfl⟩,qbM.lookup,?_⟩))))
     have hy:∀p∈ys,p<es.size:=fun p hm=>List.mem_range.mp (hp.mem_iff.mp hm)
     have pl:(ys.map fun p=>es.getD p (0,.none)).Perm es.toList:=by
       have e:es.toList=(List.range es.size).map fun p=>es.getD p (0,.none):=by
         refine List.ext_getElem (by simp) fun i h1 h2=>?_
         have:i<es.size:=by simpa using h1
         simp [Array.getD,this]
       rw [e]
       exact hp.map _
     obtain ⟨ms,a,b⟩:=perm _ pl
     have n1:(s.heap.push { cls:=Value.type "tuple",data:=Data.seq (ys.map fun (p:Nat)=>rawInt p).toArray }).objs.size=s.heap.objs.size+1:=Heap.size_push ..
     refine h _ [_,S,s.heap.objs.size] es.size _ ms _ _ (fun A' hA'=>qmV (T:=s.heap.objs.size) (pn:=0) (t:=t) (ep:=ep) hA' (by rw [n1];exact Nat.ne_of_gt (Nat.lt_succ_of_lt hlt)) (by rw [n1];exact Nat.ne_of_gt (Nat.lt_succ_self _)) ft _ ly fun i p hip=>?_)
       ⟨Heap.get?_push_size _ rfl,Heap.get?_push_of_some _ (Heap.get?_push_of_some _ hS),Heap.get?_push_of_some _ (Heap.get?_push_size _ rfl)⟩ (by simp) (fun b hb=>?_) (fun b hb=>?_) (by rw [n1];exact Nat.le_succ _) a b (by rw [List.length_map,List.length_map,ly]) (fun b o e=>Heap.get?_push_of_some _ (Heap.get?_push_of_some _ e)) rfl rfl (Nat.le_refl _)
     · have hm:=hy p (List.mem_of_getElem? hip)
       refine ⟨es[p],by simp [hm],?_⟩
       rw [List.getElem?_map,List.getElem?_map,hip]
       simp [Array.getD,hm]
     · rw [Heap.size_push,n1]
       simp only [List.mem_cons,List.not_mem_nil,or_false] at hb
       rcases hb with z | z | z
       · rw [z]
         exact Nat.lt_of_le_of_lt (Nat.le_of_eq n1) (Nat.lt_succ_self _)
       · rw [z];exact Nat.lt_succ_of_lt (Nat.lt_succ_of_lt hlt)
       · rw [z];exact Nat.lt_succ_of_lt (Nat.lt_succ_self _)
     · simp only [List.mem_cons,List.not_mem_nil,or_false] at hb
       rcases hb with z | z | z
       · right
         rw [z,n1]
         exact Nat.le_succ _
       · exact .inl z
       · exact .inr (Nat.le_of_eq z.symm)
end
end STb
namespace STb
open PySem PySem.SetTable PyProof.Rows
section
variable {prog:Program} {w:World} {A:Around} {E:Value→Shared→Prop} {s:Shared} {I S:Addr}
theorem qg0 {out:List Value} {n:Nat} (ho:out.length=n) {acc:Array Value} (h:ItemsOf (fun i v=>out[i]?=some v) acc n):acc.toList=out:=by
 refine List.ext_getElem? fun i=>?_
 rw [Array.getElem?_toList]
 rcases Nat.lt_or_ge i n with z | z
 · have hs:i<acc.size:=by rw [h.1];exact z
   have:=h.2 i acc[i] (by simp [hs])
   rw [this]
   simp [hs]
 · rw [Array.getElem?_eq_none (by rw [h.1];exact z),List.getElem?_eq_none (by omega)]
theorem qiV {ns:List Int} {Q:List Value→Shared→Prop} (hh:A.handled=none) (r:RS prog w s.heap S ns)
   (h:∀(s':Shared) (vs:List Value) (ms:List Int),IntsAre vs ms→ms.Perm ns→(∀b o,s.heap.get? b=some o→s'.heap.get? b=some o)→s.heap.objs.size<s'.heap.objs.size→s'.gens=s.gens→s'.os=s.os→Q vs s') :
   wpAny (model prog w) A (collect (.ref S)) Q E s:=by
 have hlen:=r.len
 have hSlt:S<s.heap.objs.size:=by
   obtain ⟨es,ep,t,e,_⟩:=r
   exact Heap.lt_size e
 unfold collect
 refine wpAny_bind (wpAny_runValue (codeAny_builtin F.entry_proto_collect ?_))
 rw [Around.under_plainId F.plain_proto_collect _]
 refine wpAny_bind (m:=newList []) (wpAny_newObj_type ?_)
 refine wpAny_pure ⟨plainId_quiet F.plain_list_iadd _,codeAny_builtin F.entry_list_iadd ?_⟩
 rw [Around.under_plainId F.plain_list_iadd _]
 have r1:RS prog w (s.heap.push { cls := .type "list",data := .seq ([]:List Value).toArray }) S ns:=r.keep fun o e=>Heap.get?_push_of_some _ e
 have ty1:Shared.TypeIs { s with heap:=s.heap.push { cls := .type "list",data := .seq ([]:List Value).toArray } } (.ref S) "set" := by
   obtain ⟨es,ep,t,e,_⟩:=r1
   exact ⟨_,e,rfl⟩
 show wpAny _ A.in1 (Builtin.List.listExtendWith (.ref s.heap.objs.size) (.ref S) (.ref s.heap.objs.size)) _ _ _
 unfold Builtin.List.listExtendWith
 refine wpAny_bind (wpAny_typeOf ty1 ?_)
 have d1:Builtin.List.listSameRef (.ref s.heap.objs.size) (.ref S)=false:=by
   simp only [Builtin.List.listSameRef,beq_eq_false_iff_ne,ne_eq]
   exact Nat.ne_of_gt hSlt
 have d2:(Value.type "set" == Value.type "list")=false:=by decide
 have d3:(Value.type "set" == Value.type "tuple")=false:=by decide
 simp only [d1,d2,d3,Bool.or_false,Bool.false_eq_true,if_false]
 have hh1:A.in1.handled=none:=by simp [hh]
 refine wpAny_bind (qps hh1 r1 fun I fp n out ms St s2 W st0 hI hfp hfs hge hi hp ho kp eg eo htk=>?_)
 have ty2:s2.TypeIs (.ref S) "set" := by
   obtain ⟨es,ep,t,e,_⟩:=r1
   exact ⟨_,kp _ _ e,rfl⟩
 refine wpAny_bind (wpAny_holding ?_)
 unfold Builtin.List.listLengthHint
 refine wpAny_bind (wpAny_specialOf ty2 qh5 ?_)
 refine wpAny_bind (m:=isInstance (.ref S) (.type "set")) (wpAny_isInstance ty2 qiM ?_)
 simp only [Bool.not_true,Bool.false_eq_true,if_false]
 refine wpAny_ite_split (fun _=>?_) (fun z=>absurd (by decide +kernel) z)
 refine wpAny_bind (wpAny_typeOf ty2 (wpAny_pure ?_))
 refine wpAny_ite_split (fun _=>?_) (fun z=>absurd (by decide +kernel) z)
 refine wpAny_bind (wpAny_rule ?_)
 have g0:(s.heap.push { cls := .type "list",data := .seq ([]:List Value).toArray }).get? s.heap.objs.size=some { cls := .type "list",data := .seq ([]:List Value).toArray }:=Heap.get?_push_size _ rfl
 have g2:=kp _ _ g0
 have Iout:s.heap.objs.size<I:=by
   rw [Heap.size_push] at hge
   exact hge
 refine wpAny_bind (m:=Builtin.List.listTouch (.ref s.heap.objs.size)) ?_
 refine wpAny_bind (m:=updateSeq s.heap.objs.size (·.push .none)) (wpAny_updateSeq g2 rfl ?_)
 have g3:=Heap.get?_update_self (Obj.mapSeq (·.push Value.none)) g2 rfl
 refine wpAny_updateSeq g3 rfl ?_
 have g4:=Heap.get?_update_self (Obj.mapSeq (·.pop)) g3 rfl
 have oth:∀b o,b≠s.heap.objs.size→s2.heap.get? b=some o→((s2.heap.update s.heap.objs.size (Obj.mapSeq (·.push Value.none))).update s.heap.objs.size (Obj.mapSeq (·.pop))).get? b=some o :=
   fun b o hb e=>(Heap.get?_update_other _ _ (Ne.symm hb)).trans ((Heap.get?_update_other _ _ (Ne.symm hb)).trans e)
 have hSf:s.heap.objs.size∉fp:=fun z=>by
   rcases hfs _ z with y | y
   · exact absurd hSlt (by rw [←y];exact Nat.lt_irrefl _)
   · rw [Heap.size_push] at y
     exact Nat.lt_irrefl _ y
 have W1:=W A.in1 (by simp [hh])
 have hn:n≤sizeLine:=by
   have e1:=hi.length
   have e2:=hp.length_eq
   have:=fits_of_scanBound hlen
   omega
 refine wpAny_pure ⟨plainId_quiet F.plain_extend_loop _,codeAny_extend_loopS W1 hn _ hSf _ n 0 _ _ _ rfl (Nat.zero_le _) (W1.frame 0 s2 _ s2.toks st0 (Nat.le_refl _) fun b hb o e=>oth b o (fun z=>hSf (z▸hb)) e) g4 (ItemsOf.nil _) fun s3 acc c mv gS hacc=>?_⟩
 refine wpAny_bind (wpAny_load gS (wpAny_pure ?_))
 rw [qg0 ho hacc]
 refine h s3 out ms hi hp (fun b o e=>?_) (Heap.lt_size gS) (mv.gens.symm.trans eg) (mv.os.trans eo)
 have hb:b≠s.heap.objs.size:=Nat.ne_of_lt (Heap.lt_size e)
 have hbI:b≠I:=Nat.ne_of_lt (Nat.lt_trans (Heap.lt_size e) Iout)
 exact mv.heap b o (by simp only [List.mem_cons,List.not_mem_nil,or_false,not_or];exact ⟨hb,hbI⟩) (oth b o hb (kp b o (Heap.get?_push_of_some _ e)))
end
end STb
namespace L2
open PySem PySem.Spec PyProof.Rows
abbrev Key:=Sum Int Str
def qjP:Key→Value→Bool
 | .inl k,v=>Value.isInt k v
 | .inr x,v=>Value.isStrOf x v
def qsx (w:World):Key→Int
 | .inl k=>hashInt k
 | .inr x=>hashStr w x
theorem qa6:∀{k:Key} {v:Value},qjP k v=true→(∃i t,k=Sum.inl i∧v=Value.int i t)∨(∃x t,k=Sum.inr x∧v=Value.str x t)
 | .inl i,v,h=>by
   obtain ⟨t,e⟩:=Value.isInt_shape (k:=i) (v:=v) h
   exact .inl ⟨i,t,rfl,e⟩
 | .inr x,v,h=>by
   obtain ⟨t,e⟩:=Value.isStrOf_shape (x:=x) (v:=v) h
   exact .inr ⟨x,t,rfl,e⟩
theorem qlV (i:Int) (t:Tok):qjP (.inl i) (.int i t)=true:=by simp [qjP,Value.isInt]
theorem qkZ (x:Str) (t:Tok):qjP (.inr x) (.str x t)=true:=by simp [qjP,Value.isStrOf]
theorem qpJ (a b:Int):decide ((Sum.inl a:Key)=Sum.inl b)=(a==b):=by
 by_cases e:a=b
 · subst e;simp
 · have h:¬(Sum.inl a:Key)=Sum.inl b:=fun q=>e (Sum.inl.inj q)
   rw [decide_eq_false h]
   exact (beq_eq_false_iff_ne.mpr e).symm
theorem qpZ (a b:Str):decide ((Sum.inr a:Key)=Sum.inr b)=decide (a=b):=by
 by_cases e:a=b
 · subst e;simp
 · have h:¬(Sum.inr a:Key)=Sum.inr b:=fun q=>e (Sum.inr.inj q)
   rw [decide_eq_false h,decide_eq_false e]
theorem qqm (a:Int) (b:Str):decide ((Sum.inl a:Key)=Sum.inr b)=false:=decide_eq_false (fun q=>nomatch q)
theorem qqy (a:Str) (b:Int):decide ((Sum.inr a:Key)=Sum.inl b)=false:=decide_eq_false (fun q=>nomatch q)
def qbc (prog:Program) (w:World):PySem.KeyKind prog w Key where
 is:=qjP
 hash:=qsx w
 inj:=fun v a b ha hb=>by
   rcases qa6 ha with ⟨i,t,rfl,rfl⟩ | ⟨x,t,rfl,rfl⟩
   · rcases qa6 hb with ⟨j,u,rfl,e⟩ | ⟨y,u,rfl,e⟩
     · injection e with e1 _;rw [e1]
     · exact nomatch e
   · rcases qa6 hb with ⟨j,u,rfl,e⟩ | ⟨y,u,rfl,e⟩
     · exact nomatch e
     · injection e with e1 _;rw [e1]
 byValue:=fun k v h=>by
   rcases qa6 h with ⟨i,t,rfl,rfl⟩ | ⟨x,t,rfl,rfl⟩<;>rfl
 pyHash:=fun hv h=>by
   rcases qa6 hv with ⟨i,t,rfl,rfl⟩ | ⟨x,t,rfl,rfl⟩
   · exact wpAny_pyHash_int h
   · exact wpAny_pyHash_str h
 eqBool:=fun hu hv h=>by
   rcases qa6 hu with ⟨i,t,rfl,rfl⟩ | ⟨x,t,rfl,rfl⟩
   · rcases qa6 hv with ⟨j,u,rfl,rfl⟩ | ⟨y,u,rfl,rfl⟩
     · rw [qpJ] at h;exact wpAny_eqBool_int h
     · rw [qqm] at h;exact SeqAt.EqAt.int_str i t y u _ _ _ _ h
   · rcases qa6 hv with ⟨j,u,rfl,rfl⟩ | ⟨y,u,rfl,rfl⟩
     · rw [qqy] at h;exact SeqAt.EqAt.str_int x t j u _ _ _ _ h
     · rw [qpZ] at h;exact wpAny_eqBool_str h
 «strs»:=fun k x t v h=>by
   rcases qa6 h with ⟨i,u,rfl,e⟩ | ⟨y,u,rfl,e⟩
   · exact nomatch e
   · injection e with e1 _
     subst e1
     cases v<;>rfl
theorem qiD (prog:Program) (w:World) (i:Int) (t:Tok):(qbc prog w).is (.inl i) (.int i t)=true:=qlV i t
theorem qiY (prog:Program) (w:World) (x:Str) (t:Tok):(qbc prog w).is (.inr x) (.str x t)=true:=qkZ x t
end L2
namespace L2
open PySem PySem.Spec PyProof.Rows
inductive V where
 | non | bl (b:Bool) | int (i:Int) | str (x:Str) | byt (b:Array UInt8) | flt (b:UInt64) | ref (a:Addr) | ty (n:String)
 deriving DecidableEq
def qbE:V→Value→Prop
 | .non,u=>u=Value.none
 | .bl b,u=>u=Value.bool b
 | .int i,u=>∃t,u=Value.int i t
 | .str x,u=>∃t,u=Value.str x t
 | .byt b,u=>∃t,u=Value.bytes b t
 | .flt b,u=>∃t,u=Value.float b t
 | .ref a,u=>u=Value.ref a
 | .ty n,u=>u=Value.type n
abbrev qbd:List V→List Value→Prop:=Paired qbE
theorem qbd.length {xs:List V} {us:List Value} (r:qbd xs us):xs.length=us.length:=Paired.length r
theorem qbd.get:∀{xs:List V} {us:List Value} {i:Nat} {x:V},qbd xs us→xs[i]?=some x→∃u,us[i]?=some u∧qbE x u
 | _,_,_,_,.nil,e=>by simp at e
 | _,_,0,_,.cons r _,e=>by simp at e;subst e;exact ⟨_,rfl,r⟩
 | _,_,i+1,x,.cons _ t,e=>by
   obtain ⟨u,h1,h2⟩:=qbd.get (i:=i) (x:=x) t (by simpa using e)
   exact ⟨u,by simpa using h1,h2⟩
theorem qbd.append:∀{xs ys:List V} {us ws:List Value},qbd xs us→qbd ys ws→qbd (xs++ys) (us++ws)
 | _,_,_,_,.nil,s=>s
 | _,_,_,_,.cons r t,s => .cons r (qbd.append t s)
theorem qbd.take:∀{xs:List V} {us:List Value} (n:Nat),qbd xs us→qbd (xs.take n) (us.take n)
 | _,_,0,_ => .nil
 | _,_,_+1,.nil => .nil
 | _,_,n+1,.cons r t => .cons r (qbd.take n t)
theorem qbd.drop:∀{xs:List V} {us:List Value} (n:Nat),qbd xs us→qbd (xs.drop n) (us.drop n)
 | _,_,0,r=>r
 | _,_,_+1,.nil => .nil
 | _,_,n+1,.cons _ t=>qbd.drop n t
def qhN:Option V→Option Value→Prop
 | some v,some u=>qbE v u
 | none,none=>True
 | _,_=>False
def KV {κ:Type}:List (κ×V)→List (κ×Value)→Prop:=Paired fun (p:κ×V) (q:κ×Value)=>p.1=q.1∧qbE p.2 q.2
def kV:Key→V
 | .inl i => .int i
 | .inr x => .str x
inductive HO where
 
 | lst (xs:List V)
 
 | tup (xs:List V)
 
 | dK (kvs:List (Key×V)) | dT (kvs:List (List Key×V))
 
 | set (S:Int→Bool) (n:Nat)
 
 | ins (C dx:Addr) (fs:List (Str×V))
 
 | own (x:Addr)
 
 | xd (fs:List (Str×V))
 
 | met (f x:Addr)
 
 | rng (lo hi:Int)
 
 | frz (o:Obj) (u:HO)
 
 | tbl (ps:Array Value)
 
 | ext (φ:Heap→Prop)
abbrev Hp:=Addr→Option HO
def upd (H:Hp) (a:Addr) (o:HO):Hp:=fun b=>if b=a then some o else H b
theorem qai {H:Hp} {a:Addr} {o:HO}:upd H a o a=some o:=by unfold upd;rw [if_pos rfl]
theorem qaz {H:Hp} {a b:Addr} {o:HO} (h:b≠a):upd H a o b=H b:=by unfold upd;rw [if_neg h]
theorem qlH {H:Hp} {a:Addr} {o u:HO}:upd (upd H a o) a u=upd H a u:=by
 funext b;unfold upd;split<;>rfl
theorem qrm {H:Hp} {a b:Addr} {o u:HO} (h:H a=some o) (h':H b=some u) (d:o≠u):a≠b:=by
 intro e;subst e;rw [h] at h';exact d (Option.some.inj h')
theorem qba {H:Hp} {a b:Addr} {o:HO} (h:H a=some o) (h':H b=none):a≠b:=by
 intro e;subst e;rw [h] at h';cases h'
section
variable (P:Program) (w:World)
def qbU (H:Hp) (h:Heap) (a:Addr):HO→Prop
 | .lst xs=>xs.length≤sizeLine∧∃(its:List Value) (n:Nat),qbd xs its∧h.get? a=some { cls := .type "list",data := .seq its.toArray n }
 | .tup xs=>xs.length≤sizeLine∧∃its:List Value,qbd xs its∧IsTup h a its.toArray
 | .dK kvs=>kvs.length≤sizeLine∧(a==sysModules)=false∧∃vs,KV kvs vs∧h.DictOf (qbc P w) a vs
 | .dT kvs=>kvs.length≤sizeLine∧(a==sysModules)=false∧∃xs:List (List Key×Addr×Value),
     Paired (fun (p:List Key×V) (q:List Key×Addr×Value)=>p.1=q.1∧H q.2.1=some (.tup (p.1.map kV))∧qbE p.2 q.2.2) kvs xs ∧
     ∃o es ep,h.get? a=some o∧o.ExactDict∧o.data = .dict es ep∧es.toList=xs.map (entryOfKey (tupleKind (qbc P w)))∧(xs.map (·.1)).Nodup
 | .set S n=>h.SetOf (intKind P w) a S n
 | .ins C dx fs=>H dx=some (.own a)∧fs.length≤1000∧dx≠a∧h.get? a=some (PySem.W.instObj C dx) ∧
     ∃mA,h.Ns1 dx mA∧(∀f,qhN (fs.lookup f) (mA f))∧PySem.Within mA (fs.map (·.1))
 | .own _=>∃o,h.get? a=some o
 | .xd fs=>∃mA,h.Ns1 a mA∧∀f,qhN (fs.lookup f) (mA f)
 | .rng lo hi=>∃t u v,h.get? a=some { cls := .type "range",data := .fields #[.int lo t,.int hi u,.int 1 v] }
 | .frz o u=>h.get? a=some o∧qbU H h a u
 | .tbl ps=>h.get? a=some { cls := .none,data := .fields ps }
 | .met f x=>h.get? a=some (PySem.W.methodObj (.ref f) (.ref x))
 | .ext φ=>φ h∧(∃o,h.get? a=some o)∧∀h1 h2:Heap,φ h1→(∀o,h1.get? a=some o→h2.get? a=some o)→φ h2
def HOk (H:Hp) (h:Heap):Prop:=∀a o,H a=some o→qbU P w H h a o
end
section
variable {P:Program} {w:World} {H H':Hp} {h h':Heap} {a:Addr} {o:HO}
theorem qbU.lt (x:qbU P w H h a o):a<h.objs.size:=by
 cases o with
 | lst xs=>obtain ⟨_,_,_,_,e⟩:=x;exact Heap.lt_size e
 | tup xs=>obtain ⟨_,_,_,p⟩:=x;exact p.lt
 | dK kvs=>obtain ⟨_,_,_,_,o,_,_,e,_⟩:=x;exact Heap.lt_size e
 | dT kvs=>obtain ⟨_,_,_,_,o,_,_,e,_⟩:=x;exact Heap.lt_size e
 | set S n=>obtain ⟨o,_,_,_,e,_⟩:=x;exact Heap.lt_size e
 | ins C dx fs=>obtain ⟨_,_,_,e,_⟩:=x;exact Heap.lt_size e
 | own y=>obtain ⟨_,e⟩:=x;exact Heap.lt_size e
 | xd fs=>obtain ⟨_,⟨_,_,_,e,_⟩,_⟩:=x;exact Heap.lt_size e
 | rng lo hi=>obtain ⟨_,_,_,e⟩:=x;exact Heap.lt_size e
 | frz ob u=>obtain ⟨e,_⟩:=x;exact Heap.lt_size e
 | tbl ps=>exact Heap.lt_size (show h.get? a=some _ from x)
 | met f y=>exact Heap.lt_size (show h.get? a=some _ from x)
 | ext φ=>obtain ⟨_,⟨_,e⟩,_⟩:=x;exact Heap.lt_size e
theorem Paired.mapP {α β:Type} {F G:α→β→Prop}:∀{l₁:List α} {l₂:List β},Paired F l₁ l₂→(∀a b,F a b→G a b)→Paired G l₁ l₂
 | _,_,.nil,_ => .nil
 | _,_,.cons r t,f => .cons (f _ _ r) (Paired.mapP t f)
theorem qbU.stay (x:qbU P w H h a o) (k:∀b u,(b=a∨H b=some (.own a))→h.get? b=some u→h'.get? b=some u)
   (ho:∀b,H b=some (.own a)→H' b=some (.own a)) (ht:∀b xs,H b=some (.tup xs)→H' b=some (.tup xs)):qbU P w H' h' a o:=by
 induction o with
 | lst xs=>obtain ⟨z,its,n,r,e⟩:=x;exact ⟨z,its,n,r,k _ _ (.inl rfl) e⟩
 | tup xs=>obtain ⟨z,its,r,ob,e,c⟩:=x;exact ⟨z,its,r,ob,k _ _ (.inl rfl) e,c⟩
 | dK kvs=>obtain ⟨z,y,vs,r,ob,es,ep,e,c⟩:=x;exact ⟨z,y,vs,r,ob,es,ep,k _ _ (.inl rfl) e,c⟩
 | dT kvs =>
   obtain ⟨z,y,xs,r,ob,es,ep,e,c⟩:=x
   exact ⟨z,y,xs,Paired.mapP r fun p q z=>⟨z.1,ht _ _ z.2.1,z.2.2⟩,ob,es,ep,k _ _ (.inl rfl) e,c⟩
 | set S n=>obtain ⟨ob,es,ep,t,e,c⟩:=x;exact ⟨ob,es,ep,t,k _ _ (.inl rfl) e,c⟩
 | ins C dx fs =>
   obtain ⟨d,z,ne,e,mA,⟨od,es,ep,e2,c⟩,r⟩:=x
   exact ⟨ho _ d,z,ne,k _ _ (.inl rfl) e,mA,⟨od,es,ep,k _ _ (.inr d) e2,c⟩,r⟩
 | own y=>obtain ⟨ob,e⟩:=x;exact ⟨ob,k _ _ (.inl rfl) e⟩
 | xd fs=>obtain ⟨mA,⟨od,es,ep,e,c⟩,r⟩:=x;exact ⟨mA,⟨od,es,ep,k _ _ (.inl rfl) e,c⟩,r⟩
 | rng lo hi=>obtain ⟨t,u,v,e⟩:=x;exact ⟨t,u,v,k _ _ (.inl rfl) e⟩
 | frz ob u ih=>obtain ⟨e,q⟩:=x;exact ⟨k _ _ (.inl rfl) e,ih q⟩
 | tbl ps =>
   have e:h.get? a=some { cls := .none,data := .fields ps }:=x
   show h'.get? a=some { cls := .none,data := .fields ps }
   exact k a _ (.inl rfl) e
 | met f y =>
   have e:h.get? a=some (PySem.W.methodObj (.ref f) (.ref y)):=x
   show h'.get? a=some (PySem.W.methodObj (.ref f) (.ref y))
   exact k a _ (.inl rfl) e
 | ext φ=>obtain ⟨p,⟨o,e⟩,st⟩:=x;exact ⟨st _ _ p fun o q=>k _ _ (.inl rfl) q,⟨o,k _ _ (.inl rfl) e⟩,st⟩
theorem HOk.lt (x:HOk P w H h) (e:H a=some o):a<h.objs.size:=(x a o e).lt
theorem HOk.fresh (x:HOk P w H h) (e:h.objs.size≤a):H a=none:=by
 cases q:H a with
 | none=>rfl
 | some u=>exact absurd (Nat.lt_of_lt_of_le (x.lt q) e) (Nat.lt_irrefl _)
theorem HOk.kept (x:HOk P w H h) (k:∀b u,h.get? b=some u→h'.get? b=some u):HOk P w H h':=fun a o e =>
 (x a o e).stay (fun b u _ q=>k b u q) (fun _ q=>q) fun _ _ q=>q
theorem HOk.laid (x:HOk P w H h) (k:∀b u,h.get? b=some u→h'.get? b=some u) (hp:h.objs.size≤a) (new:qbU P w (upd H a o) h' a o):HOk P w (upd H a o) h':=fun b u e=>by
 have hn:=x.fresh hp
 by_cases hb:b=a
 · subst hb;rw [qai] at e;cases e;exact new
 · rw [qaz hb] at e
   exact (x b u e).stay (fun c v _ q=>k c v q) (fun c q=>by rw [qaz (qba q hn)];exact q) fun c xs q=>by rw [qaz (qba q hn)];exact q
end
def Rd (H:Hp) (a:Addr) (u:HO):Prop:=H a=some u∨∃o,H a=some (.frz o u)
theorem Rd.ok {P:Program} {w:World} {H:Hp} {h:Heap} {a:Addr} {u:HO} (r:Rd H a u) (x:HOk P w H h):qbU P w H h a u:=by
 rcases r with r | ⟨o,r⟩
 · exact x a u r
 · obtain ⟨_,q⟩:=x a _ r
   exact q
def Mut:Option HO→Prop
 | some (.lst _)=>True
 | some (.dK _)=>True
 | some (.dT _)=>True
 | some (.set _ _)=>True
 | some (.ins _ _ _)=>True
 | some (.ext _)=>True
 | _=>False
section
variable {P:Program} {w:World} {H:Hp} {h h':Heap} {x e:Addr} {o':HO}
theorem HOk.write (ok:HOk P w H h) (mu:Mut (H x)) (he:e=x∨H e=some (.own x)) (k:∀b u,b≠e→h.get? b=some u→h'.get? b=some u) (heo:∃u,h'.get? e=some u)
   (new:qbU P w (upd H x o') h' x o'):HOk P w (upd H x o') h':=fun b u q=>by
 have nown:∀c y,H c=some (.own y)→c≠x:=fun c y r z=>by subst z;rw [r] at mu;exact mu
 have ntup:∀c xs,H c=some (.tup xs)→c≠x:=fun c xs r z=>by subst z;rw [r] at mu;exact mu
 by_cases hb:b=x
 · subst hb;rw [qai] at q;cases q;exact new
 · rw [qaz hb] at q
   by_cases hbe:b=e
   · have q':H b=some (.own x):=by
       rcases he with z | z
       · exact absurd (hbe.trans z) hb
       · rw [hbe];exact z
     rw [q] at q';cases q'
     obtain ⟨v,hv⟩:=heo
     exact ⟨v,by rw [hbe];exact hv⟩
   · refine (ok b u q).stay (fun c v hc r=>k c v ?_ r) (fun c r=>by rw [qaz (nown c b r)];exact r) fun c xs r=>by rw [qaz (ntup c xs r)];exact r
     rcases hc with rfl | hc
     · exact hbe
     · rintro rfl
       rcases he with z | z
       · exact nown c b hc z
       · rw [hc] at z;cases z;exact hb rfl
end
structure Un (fs ex:List Addr) (H H':Hp) (h h':Heap):Prop where
 keep:∀b o,h.get? b=some o→H b=none→b∉fs→b∉ex→h'.get? b=some o
 slot:∀b o,h.get? b=some o→H b=none→b∈fs→b∉ex→∃sl,h'.get? b=some { o with slots:=sl }
 free:∀b o,h.get? b=some o→H b=none→b∉ex→H' b=none
 there:∀b o,h.get? b=some o→b∉ex→∃o',h'.get? b=some o'
 tups:∀b xs,H b=some (.tup xs)→H' b=some (.tup xs)
 frzs:∀b o u,H b=some (.frz o u)→H' b=some (.frz o u)
 tbls:∀b ps,H b=some (.tbl ps)→∃qnX,H' b=some (.tbl (ps++qnX))
section
variable {fs fs' ex ex':List Addr} {H H1 H2:Hp} {h h1 h2 h':Heap} {a x e:Addr} {o:HO}
theorem Un.any (u:Un fs ex H H1 h h1) {b:Addr} {ob:Obj} (q:h.get? b=some ob) (n:H b=none) (hx:b∉ex):∃sl,h1.get? b=some { ob with slots:=sl }:=by
 by_cases hb:b∈fs
 · exact u.slot b ob q n hb hx
 · exact ⟨ob.slots,u.keep b ob q n hb hx⟩
theorem Un.kept (k:∀b u,h.get? b=some u→h'.get? b=some u):Un fs ex H H h h' :=
 ⟨fun b ob q _ _ _=>k b ob q,fun b ob q _ _ _=>⟨ob.slots,k b ob q⟩,fun _ _ _ n _=>n,fun b ob q _=>⟨ob,k b ob q⟩,fun _ _ q=>q,fun _ _ _ q=>q,fun _ ps q=>⟨#[],by rw [q];simp⟩⟩
theorem Un.refl:Un fs ex H H h h:=Un.kept fun _ _ q=>q
theorem Un.laid (k:∀b u,h.get? b=some u→h'.get? b=some u) (hp:h.objs.size≤a) (hn:H a=none):Un fs ex H (upd H a o) h h' where
 keep:=fun b u q _ _ _=>k b u q
 slot:=fun b u q _ _ _=>⟨u.slots,k b u q⟩
 free:=fun b u q n _=>by rw [qaz (Nat.ne_of_lt (Nat.lt_of_lt_of_le (Heap.lt_size q) hp))];exact n
 there:=fun b u q _=>⟨u,k b u q⟩
 tups:=fun b xs q=>by rw [qaz (qba q hn)];exact q
 frzs:=fun b u xs q=>by rw [qaz (qba q hn)];exact q
 tbls:=fun b ps q=>⟨#[],by rw [qaz (qba q hn),q];simp⟩
theorem Un.write (mu:Mut (H x)) (he:e=x∨H e=some (.own x)) (k:∀b u,b≠e→h.get? b=some u→h'.get? b=some u) (heo:∃u,h'.get? e=some u):Un fs ex H (upd H x o) h h':=by
 have hx:∀b,H b=none→b≠x:=fun b n z=>by subst z;rw [n] at mu;exact mu
 have hb:∀b,H b=none→b≠e:=fun b n z=>by
   subst z
   rcases he with r | r
   · exact hx b n r
   · rw [n] at r;cases r
 have hm:∀b u,H b=some u→¬Mut (some u)→b≠x:=fun b u q nm z=>by subst z;rw [q] at mu;exact nm mu
 refine ⟨fun b u q n _ _=>k b u (hb b n) q,fun b u q n _ _=>⟨u.slots,k b u (hb b n) q⟩,fun b u q n _=>by rw [qaz (hx b n)];exact n,fun b u q _=>?_,
   fun b xs q=>by rw [qaz (hm b _ q fun z=>z)];exact q,fun b u xs q=>by rw [qaz (hm b _ q fun z=>z)];exact q,fun b ps q=>⟨#[],by rw [qaz (hm b _ q fun z=>z),q];simp⟩⟩
 by_cases hbe:b=e
 · subst hbe;exact heo
 · exact ⟨u,k b u hbe q⟩
end
def trk (h:Heap) (H:Hp):List Addr:=(List.range h.objs.size).filter fun a=>(H a).isSome
def qmh (h:Heap) (H:Hp):Heap:=PySem.W.hideAll h (trk h H)
theorem qki (h:Heap) (H:Hp):(qmh h H).objs.size=h.objs.size:=PySem.W.hideAll_size _ _
theorem qm1 {h:Heap} {H:Hp} {b:Addr} {o:Obj} (e:h.get? b=some o) (n:H b=none):(qmh h H).get? b=some o :=
 PySem.W.hideAll_get _ e fun hm=>by
   have q:(H b).isSome=true:=(List.mem_filter.mp hm).2
   rw [n] at q;simp at q
theorem qn5 {h:Heap} {H:Hp} {b:Addr} {o:Obj} (e:(qmh h H).get? b=some o):h.get? b=some o∧H b=none:=by
 have e':h.get? b=some o:=PySem.W.of_hideAll (trk h H) e
 refine ⟨e',?_⟩
 cases q:H b with
 | none=>rfl
 | some x =>
   have hm:b∈trk h H:=List.mem_filter.mpr ⟨List.mem_range.mpr (Heap.lt_size e'),by simp [q]⟩
   have z:(qmh h H).get? b=none:=PySem.W.hideAll_none (trk h H) hm
   rw [z] at e;cases e
def qog (g h:Heap) (L:Addr):List (Addr×Obj):=(List.range h.objs.size).filterMap fun a=>if a=L∨(g.get? a).isSome=true then none else (h.get? a).map fun o=>(a,o)
def qiF (g h:Heap) (L d:Addr):List (Addr×Obj):=(qog g h L).filter fun p=>decide (p.1≠d)
end L2
namespace L2
open PySem PySem.Spec PyProof.Rows
structure Mod (K:PySem.W.Frag) (mg:Str→Option Value) (base:Heap):Prop where
 kin:K.In base
 glob:base.Ns mainGlobals mg
 blt:∃mb,base.Ns builtinsNs mb∧∀x:Str,x ≠ "__name__" → mb x=bootBuiltins x
 nolimit:base.NoLimit
structure Cx where
 prog:Program
 w:World
 K:PySem.W.Frag
 mg:Str→Option Value
 base:Heap
 A:Around
 N:List Str
 s₀:Shared
 H₀:Hp
 env:Env
 outer:List Env
 stack:List Env
 ex:List Addr
 fn:Str→Bool
 calm:Bool
 pn:List (Addr×Obj)
 xe:Value→Shared→Prop
def frs (l:List Env):List Addr:=l.filterMap (·.frame)
abbrev Cx.fs (X:Cx):List Addr:=frs X.outer
def Vis (sc:Scope) (x:Str):Prop:=sc.names.lookup x=some .local∨sc.names.lookup x=some .cell∨sc.names.lookup x=some .free
def Loc (sc:Scope) (x:Str):Prop:=sc.names.lookup x=some .local∨sc.names.lookup x=some .cell
def qst (env:Env) (h:Heap) (m:Str→Option Value) (x:Str) (u:Value):Prop :=
 (env.kindOf x=some .local∧m x=some u)∨((env.kindOf x=some .cell∨env.kindOf x=some .free)∧∃c,env.cells.lookup x=some c∧h.IsCell c (some u))
structure Cx.Ok (X:Cx):Prop where
 mod:Mod X.K X.mg X.base
 kind:X.env.scope.kind = .function
 glob:X.env.globals=mainGlobals
 blt:X.env.builtins=builtinsNs
 above:X.s₀.heap.objs.size≤X.env.locals
 inj:∀x y c,X.env.cells.lookup x=some c→X.env.cells.lookup y=some c→x=y
 has:∀x,(X.env.kindOf x=some .cell∨X.env.kindOf x=some .free)→∃c,X.env.cells.lookup x=some c
 cab:∀x c,X.fn x=true→X.env.cells.lookup x=some c→X.s₀.heap.objs.size≤c
 hd:X.calm=true→X.A.handled=none
 frames:X.A.frames=some X.stack
 stk:X.stack=X.outer∨(X.stack=X.env::X.outer∧X.env.frame=some X.env.locals)
 exf:∀b∈X.ex,b≠X.env.locals∧∀x c,X.env.cells.lookup x=some c→c≠b
 bs:∀b o,X.base.get? b=some o→X.s₀.heap.get? b=some o∧X.H₀ b=none
 bsz:X.base.objs.size≤X.s₀.heap.objs.size
 noex:∀b o,X.base.get? b=some o→b∉X.ex
 exfs:∀b∈X.ex,b∉X.fs
 funs:X.s₀.heap.FunFrames X.base X.outer
 frf:∀b∈X.fs,X.H₀ b=none
structure Inv (X:Cx) (pins:List (Addr×Obj)) (σ:List (Option V)) (H:Hp) (s:Shared):Prop where
 ok:X.Ok
 os:s.os=X.s₀.os
 bare:AllBare s.gens
 base:Un X.fs X.ex X.H₀ H X.s₀.heap s.heap
 loc:∃m,s.heap.Ns X.env.locals m∧∀(i:Nat) (x:Str) (v:V),X.N[i]?=some x→σ[i]?=some (some v)→Vis X.env.scope x→∃u,qbE v u∧qst X.env s.heap m x u
 cell:∀x c,X.env.cells.lookup x=some c→∃v,s.heap.IsCell c v
 free:H X.env.locals=none
 freeC:∀x c,X.env.cells.lookup x=some c→H c=none
 pin:∀p∈X.pn++pins,s.heap.get? p.1=some p.2∧H p.1=none∧p.1≠X.env.locals∧p.1∉X.fs∧∀v,p.2.data ≠ .cell v
 hok:HOk X.prog X.w H s.heap
 len:σ.length=X.N.length
section
variable {X:Cx} {pins:List (Addr×Obj)} {σ:List (Option V)} {H H':Hp} {s:Shared} {h':Heap}
theorem Cx.Ok.nofr (ok:X.Ok) {b:Addr} {o:Obj} (e:X.base.get? b=some o):b∉X.fs:=fun hb=>by
 have:=(ok.funs.mem hb).1
 rw [e] at this;cases this
theorem Inv.bs (I:Inv X pins σ H s):∀b o,X.base.get? b=some o→s.heap.get? b=some o∧H b=none:=fun b o e =>
 ⟨I.base.keep b o (I.ok.bs b o e).1 (I.ok.bs b o e).2 (I.ok.nofr e) (I.ok.noex b o e),I.base.free b o (I.ok.bs b o e).1 (I.ok.bs b o e).2 (I.ok.noex b o e)⟩
theorem Inv.bk (I:Inv X pins σ H s):∀b o,X.base.get? b=some o→s.heap.get? b=some o:=fun b o e=>(I.bs b o e).1
theorem Inv.mod (I:Inv X pins σ H s):Mod X.K X.mg X.base:=I.ok.mod
theorem Inv.kIn (I:Inv X pins σ H s):X.K.In s.heap:=I.ok.mod.kin.keeps I.bk
theorem Inv.fr (I:Inv X pins σ H s):∃m,Fr X.base X.env.locals s.heap m :=
 let ⟨m,hn,_⟩:=I.loc
 ⟨m,hn,I.bk,Nat.le_trans I.ok.bsz I.ok.above⟩
theorem Inv.lt (I:Inv X pins σ H s):X.env.locals<s.heap.objs.size:=let ⟨_,hn,_⟩:=I.loc;hn.lt
theorem Inv.sz (I:Inv X pins σ H s):X.s₀.heap.objs.size≤s.heap.objs.size:=Nat.le_trans I.ok.above (Nat.le_of_lt I.lt)
theorem Inv.nofs (I:Inv X pins σ H s) {a:Addr} (h:s.heap.objs.size≤a):a∉X.fs:=fun hb=>by
 obtain ⟨_,o,ho,_⟩:=I.ok.funs.mem hb
 exact absurd (Nat.lt_of_lt_of_le (Heap.lt_size ho) (Nat.le_trans I.sz h)) (Nat.lt_irrefl _)
theorem Inv.cne (I:Inv X pins σ H s):∀x c,X.env.cells.lookup x=some c→c≠X.env.locals:=fun x c e z=>by
 obtain ⟨v,o,ho,hd⟩:=I.cell x c e
 obtain ⟨m,⟨o',es,ep,ho',hd',_⟩,_⟩:=I.loc
 rw [z,ho'] at ho;cases ho;rw [hd'] at hd;cases hd
theorem Inv.funs (I:Inv X pins σ H s):s.heap.FunFrames X.base X.outer:=by
 have all:∀(l:List Env),(∀b∈frs l,b∈X.fs)→X.s₀.heap.FunFrames X.base l→s.heap.FunFrames X.base l:=by
   intro l
   induction l with
   | nil=>intro _ _;trivial
   | cons env r ih =>
     intro hs hl
     obtain ⟨hk,⟨L,o,hf,hn,ho,hd⟩,hr⟩:=hl
     have hL:L∈X.fs:=hs L (by unfold frs;rw [List.filterMap_cons,hf];exact List.mem_cons_self)
     obtain ⟨sl,e⟩:=I.base.slot L o ho (I.ok.frf L hL) hL fun z=>I.ok.exfs L z hL
     exact ⟨hk,⟨L,_,hf,hn,e,hd⟩,ih (fun b hb=>hs b (by unfold frs;rw [List.filterMap_cons,hf];exact List.mem_cons_of_mem _ hb)) hr⟩
 exact all X.outer (fun _ hb=>hb) I.ok.funs
theorem Inv.stack (I:Inv X pins σ H s):s.heap.FunFrames X.base X.stack:=by
 rcases I.ok.stk with e | ⟨e,hf⟩
 · rw [e];exact I.funs
 · rw [e]
   obtain ⟨m,hn,_⟩:=I.loc
   refine .cons (by rw [I.ok.kind];decide) hf hn ?_ I.funs
   exact Heap.get?_none_of_le (Nat.le_trans I.ok.bsz I.ok.above)
theorem Inv.stkSub (I:Inv X pins σ H s):∀b∈frs X.stack,b∈X.env.locals::X.fs:=fun b hb=>by
 rcases I.ok.stk with e | ⟨e,hf⟩
 · rw [e] at hb;exact List.mem_cons_of_mem _ hb
 · rw [e] at hb
   unfold frs at hb
   rw [List.filterMap_cons,hf] at hb
   exact hb
theorem Inv.stkFree (I:Inv X pins σ H s):∀b∈frs X.stack,H b=none:=fun b hb=>by
 rcases List.mem_cons.mp (I.stkSub b hb) with e | hb
 · rw [e];exact I.free
 · obtain ⟨_,o,ho,_⟩:=I.ok.funs.mem hb
   exact I.base.free b o ho (I.ok.frf b hb) fun z=>I.ok.exfs b z hb
theorem Inv.step {g':Array GenState} {t':Nat} {d':Drawn} {ch:List Addr} (I:Inv X pins σ H s)
   (hch:∀b∈ch,(b∈X.ex∨X.s₀.heap.objs.size≤b)∧b≠X.env.locals∧(∀x c,X.env.cells.lookup x=some c→c≠b)∧∀p∈X.pn++pins,p.1≠b)
   (keep:∀b o,b≠X.env.locals→b∉X.fs→b∉ch→s.heap.get? b=some o→H b=none→h'.get? b=some o)
   (slot:∀b o,b≠X.env.locals→b∈X.fs→b∉ch→s.heap.get? b=some o→H b=none→∃sl,h'.get? b=some { o with slots:=sl }) (free:∀b o,b∉ch→s.heap.get? b=some o→H b=none→H' b=none)
   (there:∀b o,b∉ch→s.heap.get? b=some o→∃o',h'.get? b=some o')
   (tups:∀b xs,H b=some (.tup xs)→H' b=some (.tup xs)) (frzs:∀b o u,H b=some (.frz o u)→H' b=some (.frz o u)) (tbls:∀b ps,H b=some (.tbl ps)→∃qnX,H' b=some (.tbl (ps++qnX)))
   (ns:∀m,s.heap.Ns X.env.locals m→h'.Ns X.env.locals m) (hok:HOk X.prog X.w H' h') (hg:AllBare g') :
   Inv X pins σ H' { s with heap:=h',gens:=g',drawn:=d',toks:=t' }:=by
 have neL:∀b o,X.s₀.heap.get? b=some o→b≠X.env.locals:=fun b o e=>Nat.ne_of_lt (Nat.lt_of_lt_of_le (Heap.lt_size e) I.ok.above)
 have neC:∀b o,X.s₀.heap.get? b=some o→b∉X.ex→b∉ch:=fun b o e hx hb=>by
   rcases (hch b hb).1 with z | z
   · exact hx z
   · exact absurd (Nat.lt_of_lt_of_le (Heap.lt_size e) z) (Nat.lt_irrefl _)
 have cellK:∀x c,X.env.cells.lookup x=some c→∀v,s.heap.IsCell c v→h'.IsCell c v:=fun x c e v ⟨o,ho,hd⟩=>by
   have nch:c∉ch:=fun z=>(hch c z).2.2.1 x c e rfl
   by_cases hc:c∈X.fs
   · obtain ⟨sl,q⟩:=slot c o (I.cne x c e) hc nch ho (I.freeC x c e)
     exact ⟨_,q,hd⟩
   · exact ⟨o,keep c o (I.cne x c e) hc nch ho (I.freeC x c e),hd⟩
 refine ⟨I.ok,I.os,hg,⟨fun b o e n hb hx=>?_,fun b o e n hb hx=>?_,fun b o e n hx=>?_,fun b o e hx=>?_,fun b xs e=>tups b xs (I.base.tups b xs e),fun b o xs e=>frzs b o xs (I.base.frzs b o xs e),fun b ps e=>?_⟩,?_,fun x c e=>?_,?_,fun x c e=>?_,fun p hp=>?_,hok,I.len⟩
 · exact keep b o (neL b o e) hb (neC b o e hx) (I.base.keep b o e n hb hx) (I.base.free b o e n hx)
 · obtain ⟨sl,e1⟩:=I.base.slot b o e n hb hx
   obtain ⟨sl',e2⟩:=slot b _ (neL b o e) hb (neC b o e hx) e1 (I.base.free b o e n hx)
   exact ⟨sl',e2⟩
 · obtain ⟨o',e1⟩:=I.base.there b o e hx
   exact free b o' (neC b o e hx) e1 (I.base.free b o e n hx)
 · obtain ⟨o',e1⟩:=I.base.there b o e hx
   exact there b o' (neC b o e hx) e1
 · obtain ⟨m1,e1⟩:=I.base.tbls b ps e
   obtain ⟨m2,e2⟩:=tbls b _ e1
   exact ⟨m1++m2,by rw [e2,Array.append_assoc]⟩
 · obtain ⟨m,hn,hl⟩:=I.loc
   refine ⟨m,ns m hn,fun i x v e1 e2 e3=>?_⟩
   obtain ⟨u,r,l⟩:=hl i x v e1 e2 e3
   refine ⟨u,r,?_⟩
   rcases l with l | ⟨k,c,e,z⟩
   · exact .inl l
   · exact .inr ⟨k,c,e,cellK x c e _ z⟩
 · obtain ⟨v,z⟩:=I.cell x c e
   exact ⟨v,cellK x c e v z⟩
 · obtain ⟨m,⟨o,_,_,ho,_⟩,_⟩:=I.loc
   exact free _ o (fun z=>(hch _ z).2.1 rfl) ho I.free
 · obtain ⟨v,o,ho,hd⟩:=I.cell x c e
   exact free c o (fun z=>(hch c z).2.2.1 x c e rfl) ho (I.freeC x c e)
 · obtain ⟨e,n,ne,nf,d⟩:=I.pin p hp
   have nch:p.1∉ch:=fun z=>(hch p.1 z).2.2.2 p hp rfl
   exact ⟨keep p.1 p.2 ne nf nch e n,free p.1 p.2 nch e n,ne,nf,d⟩
theorem Inv.un {t':Nat} (I:Inv X pins σ H s) (u:Un X.fs [] H H' s.heap h') (hok:HOk X.prog X.w H' h'):Inv X pins σ H' { s with heap:=h',toks:=t' }:=by
 obtain ⟨m,⟨o,es,ep,ho,r⟩,_⟩:=id I.loc
 obtain ⟨sl,hL⟩:=u.any ho I.free (by simp)
 exact I.step (g':=s.gens) (d':=s.drawn) (ch:=[]) (fun _ z=>nomatch z) (fun b o _ hb _ e n=>u.keep b o e n hb (by simp)) (fun b o _ hb _ e n=>u.slot b o e n hb (by simp)) (fun b o _ e n=>u.free b o e n (by simp)) (fun b o _ e=>u.there b o e (by simp)) u.tups u.frzs u.tbls (fun m' hm=>by
   obtain ⟨o',es',ep',ho',r'⟩:=hm
   rw [ho] at ho';cases ho'
   exact ⟨_,es',ep',hL,r'⟩) hok I.bare
theorem Inv.call {g':Array GenState} {t':Nat} {d':Drawn} {ch:List Addr} (I:Inv X pins σ H s) (u:Un (frs X.stack) ch H H' s.heap h') (hok:HOk X.prog X.w H' h') (hg:AllBare g')
   (hch:∀b∈ch,(b∈X.ex∨X.s₀.heap.objs.size≤b)∧b≠X.env.locals∧(∀x c,X.env.cells.lookup x=some c→c≠b)∧∀p∈X.pn++pins,p.1≠b) :
   Inv X pins σ H' { s with heap:=h',gens:=g',drawn:=d',toks:=t' }:=by
 obtain ⟨m,⟨o,es,ep,ho,r⟩,_⟩:=id I.loc
 obtain ⟨sl,hL⟩:=u.any ho I.free fun z=>(hch _ z).2.1 rfl
 exact I.step (ch:=ch) hch (fun b o hL hb hc e n=>u.keep b o e n (fun z=>(List.mem_cons.mp (I.stkSub b z)).elim hL hb) hc) (fun b o _ _ hc e n=>u.any e n hc) (fun b o hc e n=>u.free b o e n hc) (fun b o hc e=>u.there b o e hc) u.tups u.frzs u.tbls (fun m' hm=>by
   obtain ⟨o',es',ep',ho',r'⟩:=hm
   rw [ho] at ho';cases ho'
   exact ⟨_,es',ep',hL,r'⟩) hok hg
theorem Inv.turned {t':Nat} {it:Addr} (I:Inv X pins σ H s) (k:∀b o,b≠it→s.heap.get? b=some o→h'.get? b=some o) (hn:H it=none) (hL:it≠X.env.locals)
   (h1:it∈X.ex∨X.s₀.heap.objs.size≤it) (h2:∀x c,X.env.cells.lookup x=some c→c≠it) (h3:∀p∈X.pn++pins,p.1≠it):Inv X pins σ H { s with heap:=h',toks:=t' }:=by
 have nit:∀b u,H b=some u→b≠it:=fun b u e z=>by rw [z,hn] at e;cases e
 refine I.step (g':=s.gens) (d':=s.drawn) (ch:=[it]) (fun b hb=>?_) (fun b o _ _ hc e _=>k b o (fun z=>hc (by simp [z])) e) (fun b o _ _ hc e _=>⟨o.slots,k b o (fun z=>hc (by simp [z])) e⟩) (fun _ _ _ _ n=>n)
   (fun b o hc e=>⟨o,k b o (fun z=>hc (by simp [z])) e⟩) (fun _ _ e=>e) (fun _ _ _ e=>e) (fun b ps e=>⟨#[],by rw [e];simp⟩) (fun m hm=>?_) (fun b u e=>?_) I.bare
 · have e:b=it:=by simpa using hb
   subst e
   exact ⟨h1,hL,h2,h3⟩
 · obtain ⟨o,es,ep,ho,r⟩:=hm
   exact ⟨o,es,ep,k _ o (Ne.symm hL) ho,r⟩
 · refine (I.hok b u e).stay (fun c v hc q=>k c v ?_ q) (fun _ q=>q) fun _ _ q=>q
   rcases hc with z | z
   · rw [z];exact nit b u e
   · exact nit c _ z
theorem Inv.tok (I:Inv X pins σ H s) (t:Nat):Inv X pins σ H { s with toks:=t }:=I.un (h':=s.heap) (t':=t) Un.refl I.hok
theorem Inv.kept {t':Nat} (I:Inv X pins σ H s) (k:∀b u,s.heap.get? b=some u→h'.get? b=some u):Inv X pins σ H { s with heap:=h',toks:=t' }:=I.un (Un.kept k) (I.hok.kept k)
theorem Inv.laid {a:Addr} {o:HO} {t':Nat} (I:Inv X pins σ H s) (k:∀b u,s.heap.get? b=some u→h'.get? b=some u) (hp:s.heap.objs.size≤a) (new:qbU X.prog X.w (upd H a o) h' a o) :
 Inv X pins σ (upd H a o) { s with heap:=h',toks:=t' }:=I.un (Un.laid k hp (I.hok.fresh hp)) (I.hok.laid k hp new)
theorem Inv.write {x e:Addr} {o:HO} {t':Nat} (I:Inv X pins σ H s) (mu:Mut (H x)) (he:e=x∨H e=some (.own x)) (k:∀b u,b≠e→s.heap.get? b=some u→h'.get? b=some u) (heo:∃u,h'.get? e=some u)
 (new:qbU X.prog X.w (upd H x o) h' x o):Inv X pins σ (upd H x o) { s with heap:=h',toks:=t' }:=I.un (Un.write mu he k heo) (I.hok.write mu he k heo new)
theorem Inv.weak {σ':List (Option V)} (I:Inv X pins σ H s) (hl:σ'.length=σ.length) (w:∀(i:Nat) v,σ'[i]?=some (some v)→σ[i]?=some (some v)):Inv X pins σ' H s :=
 ⟨I.ok,I.os,I.bare,I.base,let ⟨m,hn,hl'⟩:=I.loc;⟨m,hn,fun i x v e1 e2 e3=>hl' i x v e1 (w i v e2) e3⟩,I.cell,I.free,I.freeC,I.pin,I.hok,hl.trans I.len⟩
theorem Inv.pins_of {pins':List (Addr×Obj)} (I:Inv X pins σ H s) (h:∀p∈pins',s.heap.get? p.1=some p.2∧H p.1=none∧p.1≠X.env.locals∧p.1∉X.fs∧∀v,p.2.data ≠ .cell v):Inv X pins' σ H s :=
 ⟨I.ok,I.os,I.bare,I.base,I.loc,I.cell,I.free,I.freeC,fun p hp=>(List.mem_append.mp hp).elim (fun z=>I.pin p (List.mem_append_left _ z)) (h p),I.hok,I.len⟩
theorem qjh {N:List Str} (hN:N.Nodup) {i j:Nat} {x:Str} (a:N[i]?=some x) (b:N[j]?=some x):i=j:=by
 obtain ⟨h1,e1⟩:=List.getElem?_eq_some_iff.mp a
 obtain ⟨h2,e2⟩:=List.getElem?_eq_some_iff.mp b
 exact (List.getElem_inj hN).mp (e1.trans e2.symm)
theorem qlL {M:Model} {A:Around} {E:Value→Shared→Prop} {i:Nat} {x:Str} {v:V} {u:Value} {Q:Unit→Shared→Prop} (I:Inv X pins σ H s) (hN:X.N.Nodup) (hi:X.N[i]?=some x) (hx:Loc X.env.scope x) (r:qbE v u)
   (h:∀s',Inv X pins (σ.set i (some v)) H s'→(∃a,Heap.SameBut a s.heap s'.heap∧(a=X.env.locals∨X.env.cells.lookup x=some a))→Q () s') (hf:X.fn x=true∨X.env.scope.names.lookup x=some .local:=by first | exact .inl rfl | exact .inr rfl | assumption):wpAny M A (storeName X.env x u) Q E s:=by
 obtain ⟨m,hn,hl⟩:=id I.loc
 have hcls:(X.env.scope.kind == .class||(X.env.scope.kind == .module&&X.env.locals != X.env.globals))=false:=by rw [I.ok.kind];rfl
 have hiσ:i<σ.length:=by rw [I.len];exact (List.getElem?_eq_some_iff.mp hi).1
 have cne:=I.cne
 have tracked:∀{a:Addr} {h':Heap},(∃o,s.heap.get? a=some o∧H a=none)→Heap.SameBut a s.heap h'→HOk X.prog X.w H h':=fun {a h'} ha hs b ob e=>by
   obtain ⟨_,_,hfree⟩:=ha
   refine (I.hok b ob e).stay (fun c w' hc q=>(hs.2 c ?_).trans q) (fun _ q=>q) fun _ _ q=>q
   rintro rfl
   rcases hc with rfl | hc
   · rw [hfree] at e;cases e
   · rw [hfree] at hc;cases hc
 rcases hx with hk | hk
 · refine wpAny_storeName_local hk hn (fun h' hn' hs=>?_) hcls
   obtain ⟨oL,_,_,hoL,_⟩:=id hn
   refine h _ ⟨I.ok,I.os,I.bare,⟨fun b o e n hb hx=>?_,fun b o e n hb hx=>?_,I.base.free,fun b o e hx=>?_,I.base.tups,I.base.frzs,I.base.tbls⟩,⟨_,hn',fun j y v' e1 e2 e3=>?_⟩,fun y c e=>?_,I.free,I.freeC,fun p hp=>?_,tracked ⟨oL,hoL,I.free⟩ hs,by simpa using I.len⟩ ⟨_,hs,.inl rfl⟩
   · exact (hs.2 b (Nat.ne_of_lt (Nat.lt_of_lt_of_le (Heap.lt_size e) I.ok.above))).trans (I.base.keep b o e n hb hx)
   · obtain ⟨sl,e1⟩:=I.base.slot b o e n hb hx
     exact ⟨sl,(hs.2 b (Nat.ne_of_lt (Nat.lt_of_lt_of_le (Heap.lt_size e) I.ok.above))).trans e1⟩
   · obtain ⟨o',e1⟩:=I.base.there b o e hx
     exact ⟨o',(hs.2 b (Nat.ne_of_lt (Nat.lt_of_lt_of_le (Heap.lt_size e) I.ok.above))).trans e1⟩
   · by_cases hj:j=i
     · subst hj
       rw [hi] at e1;cases e1
       rw [List.getElem?_set_self hiσ] at e2
       cases e2
       exact ⟨u,r,.inl ⟨hk,by simp⟩⟩
     · rw [List.getElem?_set_ne (Ne.symm hj)] at e2
       obtain ⟨u',r',q⟩:=hl j y v' e1 e2 e3
       refine ⟨u',r',?_⟩
       rcases q with ⟨k,e⟩ | ⟨k,c,e,z⟩
       · refine .inl ⟨k,?_⟩
         have:y≠x:=fun e=>hj (qjh hN e1 (e▸hi))
         simp [this,e]
       · exact .inr ⟨k,c,e,z.sameBut hs (cne y c e)⟩
   · obtain ⟨w',z⟩:=I.cell y c e
     exact ⟨w',z.sameBut hs (cne y c e)⟩
   · obtain ⟨e,n,ne,nf,d⟩:=I.pin p hp
     exact ⟨(hs.2 p.1 ne).trans e,n,ne,nf,d⟩
 · have hfn:X.fn x=true:=by
     rcases hf with z | z
     · exact z
     · rw [z] at hk;cases hk
   obtain ⟨c,hc⟩:=I.ok.has x (.inl hk)
   obtain ⟨w',z⟩:=I.cell x c hc
   refine wpAny_storeName_cell I.ok.kind hk hc z (fun h' hc' hs=>?_)
   obtain ⟨oc,hoc,hocd⟩:=id z
   refine h { s with heap:=h' } ⟨I.ok,I.os,I.bare,⟨fun b o e n hb hx=>?_,fun b o e n hb hx=>?_,I.base.free,fun b o e hx=>?_,I.base.tups,I.base.frzs,I.base.tbls⟩,⟨m,hn.sameBut hs (Ne.symm (cne x c hc)),fun j y v' e1 e2 e3=>?_⟩,fun y c' e=>?_,I.free,I.freeC,fun p hp=>?_,tracked ⟨oc,hoc,I.freeC x c hc⟩ hs,by simpa using I.len⟩ ⟨c,hs,.inr hc⟩
   · exact (hs.2 b (Nat.ne_of_lt (Nat.lt_of_lt_of_le (Heap.lt_size e) (I.ok.cab x c hfn hc)))).trans (I.base.keep b o e n hb hx)
   · obtain ⟨sl,e1⟩:=I.base.slot b o e n hb hx
     exact ⟨sl,(hs.2 b (Nat.ne_of_lt (Nat.lt_of_lt_of_le (Heap.lt_size e) (I.ok.cab x c hfn hc)))).trans e1⟩
   · obtain ⟨o',e1⟩:=I.base.there b o e hx
     exact ⟨o',(hs.2 b (Nat.ne_of_lt (Nat.lt_of_lt_of_le (Heap.lt_size e) (I.ok.cab x c hfn hc)))).trans e1⟩
   · by_cases hj:j=i
     · subst hj
       rw [hi] at e1;cases e1
       rw [List.getElem?_set_self hiσ] at e2
       cases e2
       exact ⟨u,r,.inr ⟨.inl hk,c,hc,hc'⟩⟩
     · rw [List.getElem?_set_ne (Ne.symm hj)] at e2
       obtain ⟨u',r',q⟩:=hl j y v' e1 e2 e3
       refine ⟨u',r',?_⟩
       rcases q with q | ⟨k,c',e,z'⟩
       · exact .inl q
       · refine .inr ⟨k,c',e,z'.sameBut hs ?_⟩
         rintro rfl
         exact hj (qjh hN e1 (I.ok.inj _ _ _ e hc▸hi))
   · by_cases hcc:c'=c
     · subst hcc;exact ⟨_,hc'⟩
     · obtain ⟨w2,z2⟩:=I.cell y c' e
       exact ⟨w2,z2.sameBut hs hcc⟩
   · obtain ⟨e,n,ne,nf,d⟩:=I.pin p hp
     refine ⟨(hs.2 p.1 ?_).trans e,n,ne,nf,d⟩
     intro q
     rw [q,hoc] at e
     have q':oc=p.2:=Option.some.inj e
     exact d w' (by rw [←q'];exact hocd)
theorem qeY {M:Model} {A:Around} {E:Value→Shared→Prop} {i:Nat} {x:Str} {v:V} {u:Value} {Q:Unit→Shared→Prop} (I:Inv X pins σ H s) (hN:X.N.Nodup) (hi:X.N[i]?=some x) (hx:Loc X.env.scope x) (r:qbE v u)
   (h:∀s',Inv X pins (σ.set i (some v)) H s'→Q () s') (hf:X.fn x=true∨X.env.scope.names.lookup x=some .local:=by first | exact .inl rfl | exact .inr rfl | assumption):wpAny M A (storeName X.env x u) Q E s :=
 qlL I hN hi hx r (fun s' I' _=>h s' I') hf
theorem Inv.call' {s':Shared} {ch:List Addr} (I:Inv X pins σ H s) (ho:s'.os=s.os) (u:Un (frs X.stack) ch H H' s.heap s'.heap) (hok:HOk X.prog X.w H' s'.heap) (hg:AllBare s'.gens)
   (hch:∀b∈ch,(b∈X.ex∨X.s₀.heap.objs.size≤b)∧b≠X.env.locals∧(∀x c,X.env.cells.lookup x=some c→c≠b)∧∀p∈X.pn++pins,p.1≠b):Inv X pins σ H' s':=by
 obtain ⟨h',g',d',t',o'⟩:=s'
 have e:o'=s.os:=ho
 subst e
 exact I.call (g':=g') (t':=t') (d':=d') u hok hg hch
end
abbrev XK:=Value→Option Addr→Hp→Prop
abbrev St:=List (Option V)
abbrev VK:=V→Hp→Prop
abbrev TE:=St→Hp→VK→Prop
abbrev TT:=St→Hp→(Bool→Hp→Prop)→Prop
abbrev TA:=St→Hp→(List V→Hp→Prop)→Prop
structure qgd where
 nx:St→Hp→Prop
 rt:VK
 bk:St→Hp→Prop:=fun _ _=>False
 ct:St→Hp→Prop:=fun _ _=>False
abbrev TS:=qgd→St→Hp→Prop
def EP (X:Cx) (pins:List (Addr×Obj)) (σ:St) (Q:VK) (u:Value) (s':Shared):Prop:=∃v H',Inv X pins σ H' s'∧qbE v u∧Q v H'
def TP (X:Cx) (pins:List (Addr×Obj)) (σ:St) (Q:Bool→Hp→Prop) (b:Bool) (s':Shared):Prop:=∃H',Inv X pins σ H' s'∧Q b H'
def AP (X:Cx) (pins:List (Addr×Obj)) (σ:St) (Q:List V→Hp→Prop) (us:List Value) (s':Shared):Prop:=∃vs H',Inv X pins σ H' s'∧qbd vs us∧Q vs H'
def SP (X:Cx) (pins:List (Addr×Obj)) (D:qgd) (f:Flow) (s':Shared):Prop :=
 match f with
 | .next=>∃σ' H',Inv X pins σ' H' s'∧D.nx σ' H'
 | .brk=>∃σ' H',Inv X pins σ' H' s'∧D.bk σ' H'
 | .cont=>∃σ' H',Inv X pins σ' H' s'∧D.ct σ' H'
 | .ret u=>∃v σ' H',Inv X pins σ' H' s'∧qbE v u∧D.rt v H'
def PE (X:Cx) (e:Expr) (t:TE):Prop :=
 ∀(pins:List (Addr×Obj)) (s:Shared) (σ:St) (H:Hp) (Q:VK),Inv X pins σ H s→t σ H Q→wpAny (model X.prog X.w) X.A (eval e X.env) (EP X pins σ Q) X.xe s
def PT (X:Cx) (e:Expr) (t:TT):Prop :=
 ∀(pins:List (Addr×Obj)) (s:Shared) (σ:St) (H:Hp) (Q:Bool→Hp→Prop),Inv X pins σ H s→t σ H Q→wpAny (model X.prog X.w) X.A (isTrue e X.env (eval e X.env)) (TP X pins σ Q) X.xe s
def PW (X:Cx) (e:Expr) (t:TT):Prop :=
 ∀(whole:Sem Value) (pins:List (Addr×Obj)) (s:Shared) (σ:St) (H:Hp) (Q:Bool→Hp→Prop),Inv X pins σ H s→t σ H Q→wpAny (model X.prog X.w) X.A (isTrue e X.env whole) (TP X pins σ Q) X.xe s
theorem PW.pt {X:Cx} {e:Expr} {t:TT} (h:PW X e t):PT X e t:=h _
def PA (X:Cx) (es:List Expr) (t:TA):Prop :=
 ∀(pos:Pos) (pins:List (Addr×Obj)) (s:Shared) (σ:St) (H:Hp) (Q:List V→Hp→Prop),Inv X pins σ H s→t σ H Q→wpAny (model X.prog X.w) X.A (spliced (backTo pos (starEach es X.env))) (AP X pins σ Q) X.xe s
def PS (X:Cx) (st:Stmt) (t:TS):Prop :=
 ∀(pins:List (Addr×Obj)) (s:Shared) (σ:St) (H:Hp) (D:qgd),Inv X pins σ H s→t D σ H→wpAny (model X.prog X.w) X.A (exec st X.env) (SP X pins D) X.xe s
def PSs (X:Cx) (st:List Stmt) (t:TS):Prop :=
 ∀(pins:List (Addr×Obj)) (s:Shared) (σ:St) (H:Hp) (D:qgd),Inv X pins σ H s→t D σ H→wpAny (model X.prog X.w) X.A (execs st X.env) (SP X pins D) X.xe s
theorem thn {α:Type} {t:Sem α} {Q Q':α→Shared→Prop} {M:Model} {A:Around} {E:Value→Shared→Prop} {s:Shared} (h:wpAny M A t Q E s) (hQ:∀a s,Q a s→Q' a s):wpAny M A t Q' E s:=wpAny_mono h hQ fun _ _ x=>x
end L2
namespace L2
open PySem PySem.Spec PyProof.Rows
section
variable {X:Cx}
theorem bin {a b:Expr} {ta tb:TE} (ha:PE X a ta) (hb:PE X b tb) {pins:List (Addr×Obj)} {s:Shared} {σ:St} {H:Hp} {R:V→V→Hp→Prop} (I:Inv X pins σ H s) (h:ta σ H fun x H1=>tb σ H1 fun y H2=>R x y H2)
   {α:Type} {Q:α→Shared→Prop} {f:Value→Value→Sem α}
   (hf:∀v u s2 x y H2,Inv X pins σ H2 s2→qbE x v→qbE y u→R x y H2→wpAny (model X.prog X.w) X.A (f v u) Q X.xe s2) :
   wpAny (model X.prog X.w) X.A (eval a X.env) (fun v s₁=>wpAny (model X.prog X.w) X.A (eval b X.env) (fun u s₂=>wpAny (model X.prog X.w) X.A (f v u) Q X.xe s₂) X.xe s₁) X.xe s:=by
 refine thn (ha pins s σ H _ I h) fun v s1 ⟨x,H1,I1,r1,q1⟩=>?_
 refine thn (hb pins s1 σ H1 _ I1 q1) fun u s2 ⟨y,H2,I2,r2,q2⟩=>?_
 exact hf v u s2 x y H2 I2 r1 r2 q2
def qrE (i:Nat):TE:=fun σ H Q=>∃v,σ[i]?=some (some v)∧Q v H
def tC (v:V):TE:=fun _ H Q=>Q v H
theorem qq7 {i:Nat} {x:Str} {pos:Pos} (hN:X.N[i]?=some x) (hv:Vis X.env.scope x) (hd:(x==("__debug__" : Str))=false:=by decide) (hcd:(x==("__classdict__" : Str))=false:=by decide):PE X (.Name x pos) (qrE i):=by
 intro pins s σ H Q I h
 obtain ⟨v,e,h⟩:=h
 obtain ⟨m,hn,hl⟩:=I.loc
 obtain ⟨u,r,l⟩:=hl i x v hN e hv
 have fin:EP X pins σ Q u s:=⟨v,H,I,r,h⟩
 rcases l with ⟨hk,hm⟩ | ⟨hk,c,hc,hcell⟩
 · exact wpAny_Name (wpAny_loadName_local I.ok.kind hk hn hm fin) hd
 · rcases hk with hk | hk
   · exact wpAny_Name (wpAny_loadName_cell I.ok.kind hk hc hcell fin) hd
   · exact wpAny_Name (wpAny_loadName_free I.ok.kind hk hc hcell fin hcd) hd
theorem qaf {i j pos}:PE X (.Constant (.int i) j pos) (tC (.int i)):=fun _ _ _ H _ I h=>wpAny_Constant_int ⟨.int i,H,I.tok _,⟨_,rfl⟩,h⟩
theorem qcH {b j pos}:PE X (.Constant (.bool b) j pos) (tC (.bl b)):=fun _ _ _ H _ I h=>Constant_bool ⟨.bl b,H,I,rfl,h⟩
theorem qcG {j pos}:PE X (.Constant .none j pos) (tC .non):=fun _ _ _ H _ I h=>Constant_none ⟨.non,H,I,rfl,h⟩
theorem qag {x j pos}:PE X (.Constant (.str x) j pos) (tC (.str x)):=fun _ _ _ H _ I h=>Calls.Constant_str ⟨.str x,H,I.tok _,⟨_,rfl⟩,h⟩
def Gl (X:Cx) (x:Str):Prop:=X.env.kindOf x=some .globalImplicit
theorem qiR {E:Value→Shared→Prop} {pins:List (Addr×Obj)} {s:Shared} {σ:St} {H:Hp} {x:Str} {u:Value} {pos:Pos} {Q:Value→Shared→Prop} (I:Inv X pins σ H s) (hg:Gl X x) (hm:X.mg x=some u) (h:Q u s)
   (hd:(x==("__debug__" : Str))=false:=by decide):wpAny (model X.prog X.w) X.A (eval (.Name x pos) X.env) Q E s :=
 Calls.Name_function_global I.ok.kind hg (Calls.loadGlobal_global (by rw [I.ok.glob];exact I.mod.glob.keeps I.bk) hm h) hd
theorem qeE {E:Value→Shared→Prop} {pins:List (Addr×Obj)} {s:Shared} {σ:St} {H:Hp} {x:Str} {u:Value} {pos:Pos} {Q:Value→Shared→Prop} (I:Inv X pins σ H s) (hg:Gl X x) (hm:X.mg x=none) (hv:bootBuiltins x=some u) (h:Q u s)
   (hn:x ≠ "__name__" := by decide) (hd:(x==("__debug__" : Str))=false:=by decide):wpAny (model X.prog X.w) X.A (eval (.Name x pos) X.env) Q E s:=by
 obtain ⟨mb,h1,h2⟩:=I.mod.blt
 exact Calls.Name_function_global I.ok.kind hg (Calls.loadGlobal_builtin (by rw [I.ok.glob];exact I.mod.glob.keeps I.bk) hm (by rw [I.ok.blt];exact h1.keeps I.bk) ((h2 x hn).trans hv) h) hd
theorem qer {x:Str} {v:V} {u:Value} {pos:Pos} (hg:Gl X x) (hm:X.mg x=some u) (r:qbE v u) (hd:(x==("__debug__" : Str))=false:=by decide):PE X (.Name x pos) (tC v) :=
 fun _ _ _ H _ I h=>qiR I hg hm ⟨v,H,I,r,h⟩ hd
theorem qfl {x:Str} {v:V} {u:Value} {pos:Pos} (hg:Gl X x) (hm:X.mg x=none) (hv:bootBuiltins x=some u) (r:qbE v u) (hn:x ≠ "__name__" := by decide) (hd:(x==("__debug__" : Str))=false:=by decide):PE X (.Name x pos) (tC v) :=
 fun _ _ _ H _ I h=>qeE I hg hm hv ⟨v,H,I,r,h⟩ hn hd
variable {a b:Expr} {ta tb:TE} {pos:Pos}
def PC (X:Cx) (op:CmpOp) (a b:Expr) (t:TE):Prop :=
 ∀(pins:List (Addr×Obj)) (s:Shared) (σ:St) (H:Hp) (Q:VK),Inv X pins σ H s→t σ H Q →
   wpAny (model X.prog X.w) X.A (eval a X.env) (fun v s₁=>wpAny (model X.prog X.w) X.A (eval b X.env) (fun u s₂=>wpAny (model X.prog X.w) X.A (compareOp op v u) (EP X pins σ Q) X.xe s₂) X.xe s₁) X.xe s
theorem qmk (b:Expr) {op:CmpOp} (h:op ≠ .In) (h2:op ≠ .NotIn):behindInMarks op b=false:=by
 have e1:(op==CmpOp.In)=false:=by cases op<;>first | rfl | exact absurd rfl h
 have e2:(op==CmpOp.NotIn)=false:=by cases op<;>first | rfl | exact absurd rfl h2
 cases b<;>simp [behindInMarks,e1,e2]
def tB (t:TE):TT:=fun σ H Q=>t σ H fun x H1=>∃c,x = .bl c∧Q c H1
theorem qkW {op:CmpOp} {t:TE} (h:PC X op a b t) (h1:behindInMarks op b=false:=by first | exact qmk _ (by decide) (by decide) | rfl):PT X (.Compare a [op] [b] pos) (tB t):=by
 intro pins s σ H Q I hw
 refine wpAny_isTrue_Compare1 (thn (h pins s σ H _ I hw) fun v s1 h1=>thn h1 fun u s2 h2=>thn h2 fun c s3 ⟨x,H1,I1,r1,q1⟩=>?_) h1
 obtain ⟨d,rfl,q⟩:=q1
 cases r1
 exact wpAny_truthy_bool ⟨H1,I1,q⟩
theorem qbn {e:Expr} {t:TE} (h:PE X e t) (he:∀whole,isTrue e X.env whole=(do let v ←whole;standAt e.pos;holding [v] (truthy v)):=by intro _;rfl):PT X e (tB t):=by
 intro pins s σ H Q I hw
 refine isTrue_plain (thn (h pins s σ H _ I hw) fun v s1 ⟨x,H1,I1,r1,q1⟩=>?_) (he _)
 obtain ⟨d,rfl,q⟩:=q1
 cases r1
 exact wpAny_truthy_bool ⟨H1,I1,q⟩
variable {tA tB':TT} {qiF:List Expr}
def qsf (t u:TT):TT:=fun σ H Q=>t σ H fun c H1=>if c=true then u σ H1 Q else Q false H1
def tOr (t u:TT):TT:=fun σ H Q=>t σ H fun c H1=>if c=true then Q true H1 else u σ H1 Q
def qr8 (t:TT):TT:=fun σ H Q=>t σ H fun c H1=>Q (!c) H1
theorem qcO (ha:PT X a tA):PW X (.BoolOp .And [a] pos) tA:=by
 intro wh pins s σ H Q I h
 refine isTrue_and (thn (ha pins s σ H Q I h) fun c s1 e=>?_)
 cases c with
 | true=>exact isTrue_and_nil e
 | false=>exact e
theorem qdT (ha:PT X a tA):PW X (.BoolOp .Or [a] pos) tA:=by
 intro wh pins s σ H Q I h
 refine isTrue_or (thn (ha pins s σ H Q I h) fun c s1 e=>?_)
 cases c with
 | false=>exact isTrue_or_nil e
 | true=>exact e
theorem qdz (ha:PT X a tA) (hb:PW X (.BoolOp .And (b::qiF) pos) tB'):PW X (.BoolOp .And (a::b::qiF) pos) (qsf tA tB'):=by
 intro wh pins s σ H Q I h
 refine isTrue_and (thn (ha pins s σ H _ I h) fun c s1 ⟨H1,I1,q1⟩=>?_)
 cases c with
 | true=>exact hb wh pins s1 σ H1 Q I1 q1
 | false=>exact ⟨H1,I1,q1⟩
theorem qhk (ha:PT X a tA) (hb:PW X (.BoolOp .Or (b::qiF) pos) tB'):PW X (.BoolOp .Or (a::b::qiF) pos) (tOr tA tB'):=by
 intro wh pins s σ H Q I h
 refine isTrue_or (thn (ha pins s σ H _ I h) fun c s1 ⟨H1,I1,q1⟩=>?_)
 cases c with
 | true=>exact ⟨H1,I1,q1⟩
 | false=>exact hb wh pins s1 σ H1 Q I1 q1
theorem qb4 (ha:PT X a tA):PT X (.UnaryOp .Not a pos) (qr8 tA):=by
 intro pins s σ H Q I h
 exact isTrue_not (ha pins s σ H (fun c H1=>Q (!c) H1) I h)
def qqL (ta tb:TE):TE:=fun σ H Q=>ta σ H fun x H1=>∃c,x = .bl c∧if c=true then tb σ H1 Q else Q (.bl false) H1
def qsq (ta tb:TE):TE:=fun σ H Q=>ta σ H fun x H1=>∃c,x = .bl c∧if c=true then Q (.bl true) H1 else tb σ H1 Q
def qp9 (ta:TE):TE:=fun σ H Q=>ta σ H fun x H1=>∃c,x = .bl c∧Q (.bl (!c)) H1
theorem qi9 {op} {t:TE} (h:PE X a t):PE X (.BoolOp op [a] pos) t:=fun pins s σ H Q I hw=>BoolOp_one (h pins s σ H Q I hw)
theorem qjy (ha:PE X a ta) (hb:PE X (.BoolOp .And (b::qiF) pos) tb):PE X (.BoolOp .And (a::b::qiF) pos) (qqL ta tb):=by
 intro pins s σ H Q I h
 refine BoolOp_and (thn (ha pins s σ H _ I h) fun v s1 ⟨x,H1,I1,r1,q1⟩=>?_)
 obtain ⟨c,rfl,q1⟩:=q1
 cases r1
 refine wpAny_truthy_bool ?_
 cases c with
 | true=>exact hb pins s1 σ H1 Q I1 q1
 | false=>exact ⟨.bl false,H1,I1,rfl,q1⟩
theorem qp0 (ha:PE X a ta):PE X (.UnaryOp .Not a pos) (qp9 ta):=by
 intro pins s σ H Q I h
 refine UnaryOp_ (thn (ha pins s σ H _ I h) fun v s1 ⟨x,H1,I1,r1,q1⟩=>?_)
 obtain ⟨c,rfl,q1⟩:=q1
 cases r1
 exact not_of (wpAny_truthy_bool ⟨.bl (!c),H1,I1,rfl,q1⟩)
def tIf (t:TT) (ta tb:TE):TE:=fun σ H Q=>t σ H fun c H1=>if c=true then ta σ H1 Q else tb σ H1 Q
theorem qjb {c:Expr} (hc:PT X c tA) (ha:PE X a ta) (hb:PE X b tb):PE X (.IfExp c a b pos) (tIf tA ta tb):=by
 intro pins s σ H Q I h
 refine wpAny_IfExp (thn (hc pins s σ H _ I h) fun d s1 ⟨H1,I1,q1⟩=>?_)
 cases d with
 | true=>exact ha pins s1 σ H1 Q I1 q1
 | false=>exact hb pins s1 σ H1 Q I1 q1
end
end L2
namespace L2
open PySem PySem.Spec PyProof.Rows
def SqL (K:PySem.W.Frag) (H:Hp) (a:Addr) (xs:List V):Prop :=
 Rd H a (.lst xs) ∨
   ∃(o:Obj) (its:Array Value) (n:Nat),K.lookup a=some o∧o.cls = .type "list" ∧ o.dict=none∧o.data = .seq its n∧its.size≤sizeLine∧qbd xs its.toList
def SqT (K:PySem.W.Frag) (H:Hp) (a:Addr) (xs:List V):Prop :=
 Rd H a (.tup xs) ∨
   ∃(o:Obj) (its:Array Value) (n:Nat),K.lookup a=some o∧o.cls = .type "tuple" ∧ o.data = .seq its n∧its.size≤sizeLine∧qbd xs its.toList
def qsu:Value→Option V
 | .none=>some .non
 | .bool b=>some (.bl b)
 | .int i _=>some (.int i)
 | .str x _=>some (.str x)
 | .bytes b _=>some (.byt b)
 | .float b _=>some (.flt b)
 | .ref a=>some (.ref a)
 | .type n=>some (.ty n)
 | _=>none
theorem qbE.abs {x:V} {u:Value} (r:qbE x u):qsu u=some x:=by
 cases x with
 | non=>cases r;rfl
 | bl _=>cases r;rfl
 | int _=>obtain ⟨t,rfl⟩:=r;rfl
 | str _=>obtain ⟨t,rfl⟩:=r;rfl
 | byt _=>obtain ⟨t,rfl⟩:=r;rfl
 | flt _=>obtain ⟨t,rfl⟩:=r;rfl
 | ref _=>cases r;rfl
 | ty _=>cases r;rfl
theorem qbE.inj {x y:V} {u:Value} (r:qbE x u) (q:qbE y u):x=y:=Option.some.inj (r.abs.symm.trans q.abs)
theorem qbd.inj:∀{xs ys:List V} {us:List Value},qbd xs us→qbd ys us→xs=ys
 | _,_,_,.nil,.nil=>rfl
 | _,_,_,.cons r t,.cons r' t'=>by rw [r.inj r',qbd.inj t t']
section
variable {X:Cx} {pins:List (Addr×Obj)} {σ:St} {H:Hp} {s:Shared} {a:Addr} {xs ys:List V}
theorem SqL.of {K:PySem.W.Frag} (h:H a=some (.lst xs)):SqL K H a xs := .inl (.inl h)
theorem SqT.of {K:PySem.W.Frag} (h:H a=some (.tup xs)):SqT K H a xs := .inl (.inl h)
theorem Inv.list (I:Inv X pins σ H s) (h:SqL X.K H a xs):∃its:List Value,qbd xs its∧PlainL s.heap a its.toArray∧xs.length≤sizeLine:=by
 rcases h with h | ⟨o,its,n,hk,hc,hd,hs,hz,r⟩
 · obtain ⟨z,its,n,r,e⟩:=h.ok I.hok
   exact ⟨its,r,⟨_,n,e,rfl,rfl,rfl⟩,z⟩
 · refine ⟨its.toList,r,⟨o,n,I.kIn a o hk,hc,hd,by simpa using hs⟩,?_⟩
   have e:=r.length
   simp only [Array.length_toList] at e
   omega
theorem Inv.tuple (I:Inv X pins σ H s) (h:SqT X.K H a xs):∃its:List Value,qbd xs its∧IsTup s.heap a its.toArray∧xs.length≤sizeLine:=by
 rcases h with h | ⟨o,its,n,hk,hc,hs,hz,r⟩
 · obtain ⟨z,its,r,p⟩:=h.ok I.hok
   exact ⟨its,r,p,z⟩
 · refine ⟨its.toList,r,⟨o,I.kIn a o hk,hc,n,by simpa using hs⟩,?_⟩
   have e:=r.length
   simp only [Array.length_toList] at e
   omega
theorem Inv.list_inj (I:Inv X pins σ H s) (h:SqL X.K H a xs) (h':SqL X.K H a ys):xs=ys:=by
 obtain ⟨its,r,⟨o,n,e,_,_,d⟩,_⟩:=I.list h
 obtain ⟨its',r',⟨o',n',e',_,_,d'⟩,_⟩:=I.list h'
 rw [e] at e';cases e'
 rw [d] at d'
 injection d' with d1 _
 have:its=its':=by simpa using congrArg Array.toList d1
 subst this
 exact r.inj r'
theorem Inv.tuple_inj (I:Inv X pins σ H s) (h:SqT X.K H a xs) (h':SqT X.K H a ys):xs=ys:=by
 obtain ⟨its,r,⟨o,e,_,n,d⟩,_⟩:=I.tuple h
 obtain ⟨its',r',⟨o',e',_,n',d'⟩,_⟩:=I.tuple h'
 rw [e] at e';cases e'
 rw [d] at d'
 injection d' with d1 _
 have:its=its':=by simpa using congrArg Array.toList d1
 subst this
 exact r.inj r'
end
abbrev Cx.wish (X:Cx) (E:Value→Shared→Prop):Cx:={ X with xe:=E }
abbrev Cx.nox (X:Cx):Cx:=X.wish fun _ _=>False
theorem Cx.Ok.wish {X:Cx} (ok:X.Ok) (E:Value→Shared→Prop):(X.wish E).Ok :=
 ⟨ok.mod,ok.kind,ok.glob,ok.blt,ok.above,ok.inj,ok.has,ok.cab,ok.hd,ok.frames,ok.stk,ok.exf,ok.bs,ok.bsz,ok.noex,ok.exfs,ok.funs,ok.frf⟩
theorem Cx.Ok.unwish {X:Cx} {E:Value→Shared→Prop} (ok:(X.wish E).Ok):X.Ok :=
 ⟨ok.mod,ok.kind,ok.glob,ok.blt,ok.above,ok.inj,ok.has,ok.cab,ok.hd,ok.frames,ok.stk,ok.exf,ok.bs,ok.bsz,ok.noex,ok.exfs,ok.funs,ok.frf⟩
section
variable {X:Cx} {pins:List (Addr×Obj)} {σ:St} {H:Hp} {s:Shared} {E:Value→Shared→Prop}
theorem Inv.wish (I:Inv X pins σ H s) (E:Value→Shared→Prop):Inv (X.wish E) pins σ H s:=⟨I.ok.wish E,I.os,I.bare,I.base,I.loc,I.cell,I.free,I.freeC,I.pin,I.hok,I.len⟩
theorem Inv.unwish (I:Inv (X.wish E) pins σ H s):Inv X pins σ H s:=⟨I.ok.unwish,I.os,I.bare,I.base,I.loc,I.cell,I.free,I.freeC,I.pin,I.hok,I.len⟩
theorem SP.unwish {D:qgd} {f:Flow} {s':Shared} (h:SP (X.wish E) pins D f s'):SP X pins D f s':=by
 cases f with
 | next=>obtain ⟨σ',H',I,q⟩:=h;exact ⟨σ',H',I.unwish,q⟩
 | brk=>obtain ⟨σ',H',I,q⟩:=h;exact ⟨σ',H',I.unwish,q⟩
 | cont=>obtain ⟨σ',H',I,q⟩:=h;exact ⟨σ',H',I.unwish,q⟩
 | ret u=>obtain ⟨v,σ',H',I,r,q⟩:=h;exact ⟨v,σ',H',I.unwish,r,q⟩
theorem PSs.nox {st:List Stmt} {t:TS} (h:PSs X.nox st t):PSs X st t:=fun pins s σ H D I hw =>
 wpAny_mono (h pins s σ H D (I.wish _) hw) (fun _ _ q=>q.unwish) fun _ _ z=>False.elim z
end
section
variable {X:Cx} {st:Stmt} {qiF:List Stmt} {t u:TS} {e:Expr} {te:TE} {pos:Pos}
def qkD:TS:=fun D σ H=>D.nx σ H
def qk9 (t u:TS):TS:=fun D σ H=>t { D with nx:=u D } σ H
theorem qak:PSs X [] qkD:=fun _ _ σ H _ I h=>wpAny_execs_nil ⟨σ,H,I,h⟩
theorem qab (h1:PS X st t) (h2:PSs X qiF u):PSs X (st::qiF) (qk9 t u):=by
 intro pins s σ H D I h
 refine wpAny_execs_cons (thn (h1 pins s σ H { D with nx:=u D } I h) fun f s1 q=>?_)
 cases f with
 | next =>
   obtain ⟨σ',H',I',q⟩:=q
   exact h2 pins s1 σ' H' D I' q
 | ret v=>exact q
 | brk=>exact q
 | cont=>exact q
theorem qae (h1:PS X st t):PSs X [st] t:=by
 intro pins s σ H D I h
 refine wpAny_execs_cons (thn (h1 pins s σ H D I h) fun f s1 q=>?_)
 cases f with
 | next=>exact wpAny_execs_nil q
 | ret v=>exact q
 | brk=>exact q
 | cont=>exact q
theorem Inv.quiet {pins:List (Addr×Obj)} {σ:St} {H:Hp} {s:Shared} (I:Inv X pins σ H s):interactive X.env=false:=by simp [interactive,I.ok.kind]
def qoe (te:TE):TS:=fun D σ H=>te σ H fun _ H1=>D.nx σ H1
theorem qdb (he:PE X e te) (hs:swapsWith e none pos.line X.env=pure false:=by rfl):PS X (.Expr e pos) (qoe te):=by
 intro pins s σ H D I h
 exact wpAny_Expr_any (thn (he pins s σ H _ I h) fun v s1 ⟨x,H1,I1,r1,q1⟩=>⟨σ,H1,I1,q1⟩) I.quiet hs
def qr1 (te:TE):TS:=fun D σ H=>te σ H D.rt
theorem qah (he:PE X e te):PS X (.Return (some e) pos) (qr1 te):=by
 intro pins s σ H D I h
 exact wpAny_Return_some (thn (he pins s σ H _ I h) fun v s1 ⟨x,H1,I1,r1,q1⟩=>⟨x,σ,H1,I1,r1,q1⟩)
def qrG:TS:=fun D _ H=>D.rt .non H
def qpN (c:TT) (t u:TS):TS:=fun D σ H=>c σ H fun b H1=>if b=true then t D σ H1 else u D σ H1
theorem qaA {c:Expr} {a b:List Stmt} {tc:TT} (hc:PT X c tc) (ha:PSs X a t) (hb:PSs X b u):PS X (.If c a b pos) (qpN tc t u):=by
 intro pins s σ H D I h
 refine wpAny_If (thn (hc pins s σ H _ I h) fun d s1 ⟨H1,I1,q1⟩=>?_)
 cases d with
 | true=>exact ha pins s1 σ H1 D I1 q1
 | false=>exact hb pins s1 σ H1 D I1 q1
def qnA:TS:=fun _ _ _=>False
theorem qbj:PS X st qnA:=fun _ _ _ _ _ _ h=>h.elim
end
abbrev TG:=V→St→Hp→(St→Hp→Prop)→Prop
abbrev TGs:=List V→St→Hp→(St→Hp→Prop)→Prop
def PG (X:Cx) (target:Expr) (t:TG):Prop :=
 ∀(pins:List (Addr×Obj)) (s:Shared) (σ:St) (H:Hp) (v:V) (u:Value) (Q:St→Hp→Prop),Inv X pins σ H s→qbE v u→t v σ H Q →
   wpAny (model X.prog X.w) X.A (assign target X.env u) (fun _ s'=>∃σ' H',Inv X pins σ' H' s'∧Q σ' H') X.xe s
def PGs (X:Cx) (ts:List Expr) (t:TGs):Prop :=
 ∀(pins:List (Addr×Obj)) (s:Shared) (σ:St) (H:Hp) (vs:List V) (us:List Value) (Q:St→Hp→Prop),Inv X pins σ H s→qbd vs us→t vs σ H Q →
   wpAny (model X.prog X.w) X.A (assignInOrder ((assignEach ts X.env).map (·.2)) us) (fun _ s'=>∃σ' H',Inv X pins σ' H' s'∧Q σ' H') X.xe s
abbrev qsv:=V→V→V→Hp→(Hp→Prop)→Prop
section
variable {X:Cx} {pos:Pos}
def qga (i:Nat):TG:=fun v σ H Q=>Q (σ.set i (some v)) H
theorem qas {i:Nat} {x:Str} (hN:X.N.Nodup) (hi:X.N[i]?=some x) (hx:Loc X.env.scope x) (hf:X.fn x=true∨X.env.scope.names.lookup x=some .local:=by first | exact .inl rfl | exact .inr rfl | assumption):PG X (.Name x pos) (qga i):=by
 intro pins s σ H v u Q I r h
 exact wpAny_assign_Name (qeY I hN hi hx r (fun s' I'=>⟨_,H,I',h⟩) hf)
def qrQ:TGs:=fun vs σ H Q=>vs=[]∧Q σ H
def qmX (t:TG) (u:TGs):TGs:=fun vs σ H Q=>∃v r,vs=v::r∧t v σ H fun σ' H'=>u r σ' H' Q
theorem qe7:PGs X [] qrQ:=by
 intro pins s σ H vs us Q I r h
 obtain ⟨e,h⟩:=h
 subst e
 cases r
 exact assignInOrder_nil ⟨σ,H,I,h⟩
theorem qbV {e:Expr} {es:List Expr} {t:TG} {u:TGs} (h1:PG X e t) (h2:PGs X es u)
   (hs:(assignEach (e::es) X.env).map (·.2)=assign e X.env::(assignEach es X.env).map (·.2):=by rfl):PGs X (e::es) (qmX t u):=by
 intro pins s σ H vs us Q I r h
 obtain ⟨v,vr,e1,h⟩:=h
 subst e1
 cases r with
 | cons r rr =>
   rw [hs]
   refine assignInOrder_cons (thn (h1 pins s σ H _ _ _ I r h) fun _ s1 ⟨σ1,H1,I1,q1⟩=>?_)
   exact h2 pins s1 σ1 H1 _ _ Q I1 rr q1
def qrU (K:PySem.W.Frag) (n:Nat) (t:TGs):TG:=fun v σ H Q=>∃a xs,v = .ref a∧SqT K H a xs∧xs.length=n∧t xs σ H Q
theorem qjn {es:List Expr} {k:Nat} {t:TGs} {n:Nat} (hc:X.calm=true) (h:PGs X es t)
   (hn:(assignEach es X.env).length=n:=by rfl) (hst:(assignEach es X.env).findIdx? (·.1)=none:=by rfl):PG X (.Tuple es k pos) (qrU X.K n t):=by
 intro pins s σ H v u Q I r hw
 obtain ⟨a,xs,e1,hq,hl,hw⟩:=hw
 subst e1
 cases r
 obtain ⟨its,rv,ht,hz⟩:=I.tuple hq
 refine assign_Tuple_tuple (I.ok.hd hc) ht (by simp [hn,←hl,rv.length]) hst fun h' hx=>?_
 have I1:Inv X pins σ H { s with heap:=h' }:=I.kept (t':=s.toks) fun b o e=>hx b o (Nat.ne_of_lt (Heap.lt_size e)) e
 exact h pins _ σ H xs _ Q I1 (by simpa using rv) hw
def qsr (to ti:TE) (t:qsv):TG:=fun v σ H Q=>to σ H fun o H1=>ti σ H1 fun i H2=>t o i v H2 fun H3=>Q σ H3
def qpx (te:TE) (g:TG):TS:=fun D σ H=>te σ H fun x H1=>g x σ H1 D.nx
theorem qnw {tg e:Expr} {te:TE} {g:TG} (he:PE X e te) (hg:PG X tg g) (hs:swapsWithSole [tg] e pos.line X.env=pure false:=by rfl) (hw:swappedStores [tg] e X.env=pure none:=by rfl)
   (h1:(assignEach [tg] X.env).map (·.2)=[assign tg X.env]:=by rfl):PS X (.Assign [tg] e pos) (qpx te g):=by
 intro pins s σ H D I h
 refine wpAny_Assign_stores (thn (he pins s σ H _ I h) fun v s1 ⟨x,H1,I1,r1,q1⟩=>?_) hs hw
 rw [h1]
 exact thn (hg pins s1 σ H1 x v _ I1 r1 q1) fun _ s2 q=>q
theorem qax {i:Nat} {x:Str} {e:Expr} {te:TE} {pos':Pos} (hN:X.N.Nodup) (hi:X.N[i]?=some x) (hx:Loc X.env.scope x) (he:PE X e te) (hs:swapsWith e (some (.Name x pos')) pos.line X.env=pure false:=by rfl) (hf:X.fn x=true∨X.env.scope.names.lookup x=some .local:=by first | exact .inl rfl | exact .inr rfl | assumption) :
   PS X (.Assign [.Name x pos'] e pos) (qpx te (qga i)):=by
 intro pins s σ H D I h
 refine wpAny_Assign_Name (thn (he pins s σ H _ I h) fun v s1 ⟨y,H1,I1,r1,q1⟩=>?_) hs
 exact qeY I1 hN hi hx r1 (fun s2 I2=>⟨_,H1,I2,q1⟩) hf
def qsC (i j:Nat) (ta:TA):TS:=fun D σ H=>ta σ H fun vs H1=>∃v w,vs=[v,w]∧D.nx ((σ.set i (some v)).set j (some w)) H1
end
section
variable {X:Cx} {pos:Pos}
def qjo (c:TT) (tb:TS):TS:=fun D σ H=>∃W:Nat→St→Hp→Prop,(∃m,W m σ H)∧∀m σ H,W m σ H →
 c σ H fun b H1=>if b=true then ∃N:St→Hp→Prop,(∀σ' H',N σ' H'→∃m',m'<m∧W m' σ' H')∧tb { D with nx:=N,ct:=N,bk:=D.nx } σ H1 else D.nx σ H1
theorem qm5 {c:Expr} {body:List Stmt} {tc:TT} {tb:TS} (hp:PassesOwn (model X.prog X.w) X.A X.env X.xe) (hc:PT X c tc) (hb:PSs X body tb):PS X (.While c body [] pos) (qjo tc tb):=by
 intro pins s σ H D I h
 obtain ⟨W,⟨m0,w0⟩,turn⟩:=h
 refine wpAny_While (codeAny_whileLoop (fun n s'=>∃σ' H',Inv X pins σ' H' s'∧W n σ' H') ?_ m0 ⟨σ,H,I,w0⟩)
 rintro n s1 ⟨σ1,H1,I1,w1⟩
 refine wpAny_passesOwn hp (thn (hc pins s1 σ1 H1 _ I1 (turn n σ1 H1 w1)) fun b s2 ⟨H2,I2,q2⟩=>?_)
 cases b with
 | true =>
   obtain ⟨N,hN,q2⟩:=q2
   rw [if_pos rfl]
   refine wpAny_passesOwn hp (thn (hb pins s2 σ1 H2 _ I2 q2) fun f s3 q3=>?_)
   cases f with
   | next =>
     obtain ⟨σ3,H3,I3,n3⟩:=q3
     obtain ⟨m',hm,w3⟩:=hN σ3 H3 n3
     exact ⟨m',hm,σ3,H3,I3,w3⟩
   | cont =>
     obtain ⟨σ3,H3,I3,n3⟩:=q3
     obtain ⟨m',hm,w3⟩:=hN σ3 H3 n3
     exact ⟨m',hm,σ3,H3,I3,w3⟩
   | brk=>exact q3
   | ret v=>exact q3
 | false =>
   rw [if_neg Bool.false_ne_true]
   exact wpAny_execs_nil ⟨σ1,H2,I2,q2⟩
end
structure It where
 go:Nat→Hp→Prop
 yld:Nat→Hp→V→Hp→Prop
 stop:Nat→Hp→Prop
def qhp (X:Cx) (pins:List (Addr×Obj)) (H:Hp) (b:Addr):Prop :=
 H b=none∧b≠X.env.locals∧b∉X.fs∧(b∈X.ex∨X.s₀.heap.objs.size≤b)∧(∀x c,X.env.cells.lookup x=some c→c≠b)∧∀p∈X.pn++pins,p.1≠b
theorem Inv.fpOk {X:Cx} {pins:List (Addr×Obj)} {σ:St} {H H':Hp} {s:Shared} {b:Addr} (I:Inv X pins σ H s) (hb:s.heap.objs.size≤b) (hn:H' b=none):qhp X pins H' b:=by
 refine ⟨hn,Nat.ne_of_gt (Nat.lt_of_lt_of_le I.lt hb),I.nofs hb,.inr (Nat.le_trans I.sz hb),fun x c e z=>?_,fun p hp z=>?_⟩
 · obtain ⟨v,q⟩:=I.cell x c e
   exact absurd (Nat.lt_of_lt_of_le q.lt (by rw [z];exact hb)) (Nat.lt_irrefl _)
 · exact absurd (Nat.lt_of_lt_of_le (Heap.lt_size (I.pin p hp).1) (by rw [z];exact hb)) (Nat.lt_irrefl _)
structure ql2 (P:Program) (w:World) (K:PySem.W.Frag) (tg:Expr) (J:It) (fp:List Addr) (it:Addr) (tn:Nat→Heap→Prop):Prop where
 mem:it∈fp
 obj:∀i h,tn i h→∀b∈fp,∃o,h.get? b=some o∧∀v,o.data ≠ .cell v
 keep:∀i h h',tn i h→(∀b∈fp,∀o,h.get? b=some o→h'.get? b=some o)→tn i h'
 item:∀(X:Cx),X.prog=P→X.w=w→X.K=K→X.calm=true→∀(i:Nat) (pins:List (Addr×Obj)) (s:Shared) (σ:St) (H:Hp) (E:Value→Shared→Prop),Inv X pins σ H s→(∀b∈fp,qhp X pins H b)→tn i s.heap→J.go i H →
   wpAny (model P w) X.A (pyNext (.ref it)) (fun r s1=>∃u,r=some u ∧
     wpAny (model P w) X.A (letOwnedTupleGo tg (.ref it) u) (fun _ s2=>∃x H',Inv X pins σ H' s2∧qbE x u∧J.yld i H x H'∧tn (i+1) s2.heap∧∀b∈fp,H' b=none) E s1) E s
 done:∀(X:Cx),X.prog=P→X.w=w→X.K=K→X.calm=true→∀(i:Nat) (pins:List (Addr×Obj)) (s:Shared) (σ:St) (H:Hp) (E:Value→Shared→Prop),Inv X pins σ H s→(∀b∈fp,qhp X pins H b)→tn i s.heap→J.stop i H →
   wpAny (model P w) X.A (pyNext (.ref it)) (fun r s1=>r=none∧Inv X pins σ H s1) E s
 self:∀(A:Around) (i:Nat) (s:Shared) (Q:Value→Shared→Prop) (E:Value→Shared→Prop),tn i s.heap→Q (.ref it) s→wpAny (model P w) A (pyIter (.ref it)) Q E s
abbrev TI:=St→Hp→(It→Hp→Prop)→Prop
def PIE (X:Cx) (pins:List (Addr×Obj)) (σ:St) (tg:Expr) (R:It→Hp→Prop) (itv:Value) (s2:Shared):Prop :=
 ∃(it:Addr) (fp:List Addr) (tn:Nat→Heap→Prop) (J:It) (H':Hp),itv = .ref it∧Inv X pins σ H' s2∧ql2 X.prog X.w X.K tg J fp it tn∧tn 0 s2.heap∧(∀b∈fp,qhp X pins H' b)∧R J H'
def PI (X:Cx) (tg iter:Expr) (wi:TI):Prop :=
 ∀(pins:List (Addr×Obj)) (s:Shared) (σ:St) (H:Hp) (R:It→Hp→Prop),Inv X pins σ H s→wi σ H R →
   wpAny (model X.prog X.w) X.A (eval iter X.env) (fun v s1=>wpAny (model X.prog X.w) X.A (pyIter v) (PIE X pins σ tg R) X.xe s1) X.xe s
theorem qkV {M:Model} {A:Around} {E:Value→Shared→Prop} {s:Shared} {tg:Expr} {it:Addr} {u:Value} {o:Obj} {n:String} {vs:Array Value} {Q:Unit→Shared→Prop} (ho:s.heap.get? it=some o) (hc:o.cls = .type n) (hd:o.data = .fields vs)
   (hn:["enumerate", "zip", "dict_itemiterator", "dict_reverseitemiterator", "odict_iterator", "itertools.zip_longest", "itertools.pairwise"].contains n=false) (hQ:Q () s):wpAny M A (letOwnedTupleGo tg (.ref it) u) Q E s:=by
 unfold letOwnedTupleGo
 cases tg<;>first
   | exact wpAny_pure hQ
   | (cases u<;>first
       | exact wpAny_pure hQ
       | (refine wpAny_bind (wpAny_load ho ?_)
          rw [hc,hd]
          show wpAny M A (if (["enumerate", "zip", "dict_itemiterator", "dict_reverseitemiterator", "odict_iterator", "itertools.zip_longest", "itertools.pairwise"].contains n&&vs[0]?==some (rawInt _))=true then _ else _) Q E s
          rw [if_neg (by intro h;rw [hn,Bool.false_and] at h;cases h)]
          exact wpAny_pure hQ))
def Itl (K:PySem.W.Frag) (a:Addr):It :=
 ⟨fun i H=>∃xs x,SqL K H a xs∧xs[i]?=some x,fun i H x H'=>H'=H∧∀xs,SqL K H a xs→xs[i]?=some x,fun i H=>∃xs,SqL K H a xs∧xs.length≤i⟩
def Itt (K:PySem.W.Frag) (a:Addr):It :=
 ⟨fun i H=>∃xs x,SqT K H a xs∧xs[i]?=some x,fun i H x H'=>H'=H∧∀xs,SqT K H a xs→xs[i]?=some x,fun i H=>∃xs,SqT K H a xs∧xs.length≤i⟩
def Itr (lo:Int) (n:Nat):It:=⟨fun i _=>i<n,fun i H x H'=>H'=H∧x = .int (lo+i),fun i _=>n≤i⟩
theorem qlu {P:Program} {w:World} {K:PySem.W.Frag} {tg:Expr} (a it:Addr):ql2 P w K tg (Itl K a) [it] it (fun i h=>h.IsListIter it a i) where
 mem:=by simp
 obj:=fun i h st b hb=>by
   have e:b=it:=by simpa using hb
   subst e
   obtain ⟨o,e,c,d⟩:=st
   exact ⟨o,e,fun v z=>by rw [d] at z;cases z⟩
 keep:=fun i h h' st k=>st.at fun o e=>k it (by simp) o e
 item:=by
   intro X hP hw hK hc i pins s σ H E I hf st hg
   subst hP hw hK
   obtain ⟨xs,x,hq,hx⟩:=hg
   obtain ⟨its,rv,p,hz⟩:=I.list hq
   obtain ⟨u,hu,ru⟩:=rv.get hx
   obtain ⟨f0,f1,f2,f3,f4,f5⟩:=hf it (by simp)
   refine wpAny_pyNext_list_item st p.isList (x:=u) (by simpa using hu) fun h' st' sb=>?_
   have I1:Inv X pins σ H { s with heap:=h' }:=I.turned (t':=s.toks) (fun b o hb e=>(sb.2 b hb).trans e) f0 f1 f3 f4 f5
   obtain ⟨o,e,c,d⟩:=id st'
   exact ⟨u,rfl,qkV (s:={ s with heap:=h' }) e c d (by decide) ⟨x,H,I1,ru,⟨rfl,fun ys hy=>by rw [I.list_inj hy hq];exact hx⟩,st',fun b hb=>(hf b hb).1⟩⟩
 done:=by
   intro X hP hw hK hc i pins s σ H E I hf st hg
   subst hP hw hK
   obtain ⟨xs,hq,hx⟩:=hg
   obtain ⟨its,rv,p,hz⟩:=I.list hq
   obtain ⟨f0,f1,f2,f3,f4,f5⟩:=hf it (by simp)
   have hl:=rv.length
   exact wpAny_pyNext_list_end (I.ok.hd hc) st p.isList (by simp;omega) fun h' eb=>⟨rfl,I.turned (t':=s.toks) (fun b o hb e=>eb b o hb e) f0 f1 f3 f4 f5⟩
 self:=fun _ _ _ _ _ st h=>wpAny_pyIter_listiter st h
theorem qjT {P:Program} {w:World} {K:PySem.W.Frag} {tg:Expr} (a it:Addr):ql2 P w K tg (Itt K a) [it] it (fun i h=>h.IsTupleIter it a i) where
 mem:=by simp
 obj:=fun i h st b hb=>by
   have e:b=it:=by simpa using hb
   subst e
   obtain ⟨o,e,c,d⟩:=st
   exact ⟨o,e,fun v z=>by rw [d] at z;cases z⟩
 keep:=fun i h h' st k=>st.at fun o e=>k it (by simp) o e
 item:=by
   intro X hP hw hK hc i pins s σ H E I hf st hg
   subst hP hw hK
   obtain ⟨xs,x,hq,hx⟩:=hg
   obtain ⟨its,rv,p,hz⟩:=I.tuple hq
   obtain ⟨u,hu,ru⟩:=rv.get hx
   obtain ⟨f0,f1,f2,f3,f4,f5⟩:=hf it (by simp)
   refine wpAny_pyNext_tuple_item st (show s.heap.IsTuple a its.toArray from p) (x:=u) (by simpa using hu) fun h' st' sb=>?_
   have I1:Inv X pins σ H { s with heap:=h' }:=I.turned (t':=s.toks) (fun b o hb e=>(sb.2 b hb).trans e) f0 f1 f3 f4 f5
   obtain ⟨o,e,c,d⟩:=id st'
   exact ⟨u,rfl,qkV (s:={ s with heap:=h' }) e c d (by decide) ⟨x,H,I1,ru,⟨rfl,fun ys hy=>by rw [I.tuple_inj hy hq];exact hx⟩,st',fun b hb=>(hf b hb).1⟩⟩
 done:=by
   intro X hP hw hK hc i pins s σ H E I hf st hg
   subst hP hw hK
   obtain ⟨xs,hq,hx⟩:=hg
   obtain ⟨its,rv,p,hz⟩:=I.tuple hq
   obtain ⟨f0,f1,f2,f3,f4,f5⟩:=hf it (by simp)
   have hl:=rv.length
   exact wpAny_pyNext_tuple_end (I.ok.hd hc) st (show s.heap.IsTuple a its.toArray from p) (by simp;omega) fun h' eb=>⟨rfl,I.turned (t':=s.toks) (fun b o hb e=>eb b o hb e) f0 f1 f3 f4 f5⟩
 self:=fun _ _ _ _ _ st h=>wpAny_pyIter_tupleiter st h
theorem qjR {P:Program} {w:World} {K:PySem.W.Frag} {tg:Expr} (it:Addr) (lo:Int) (n:Nat):ql2 P w K tg (Itr lo n) [it] it (fun i h=>IsRangeIter h it (lo+(i:Nat)*1) ((n:Int)-(i:Nat)) 1) where
 mem:=by simp
 obj:=fun i h st b hb=>by
   have e:b=it:=by simpa using hb
   subst e
   exact ⟨_,st,fun v z=>by
     have z':Data.fields _=Data.cell v:=z
     cases z'⟩
 keep:=fun i h h' st k=>k it (by simp) _ st
 item:=by
   intro X hP hw hK hc i pins s σ H E I hf st hg
   subst hP hw hK
   obtain ⟨f0,f1,f2,f3,f4,f5⟩:=hf it (by simp)
   have W:=Walks.range (prog:=X.prog) (w:=X.w) (I.ok.hd hc) it lo 1 n
   refine W.item i s _ _ hg st fun v h' tk hv st' kk=>?_
   obtain ⟨t,rfl⟩:=hv
   have I1:Inv X pins σ H { s with heap:=h',toks:=tk }:=I.turned (fun b o hb e=>kk b o (by simpa using hb) e) f0 f1 f3 f4 f5
   refine ⟨_,rfl,qkV (s:={ s with heap:=h',toks:=tk }) (n := "range_iterator") st' rfl rfl (by decide) ⟨.int (lo+i),H,I1,⟨t,?_⟩,⟨rfl,rfl⟩,st',fun b hb=>(hf b hb).1⟩⟩
   rw [Int.mul_one]
 done:=by
   intro X hP hw hK hc i pins s σ H E I hf st hg
   subst hP hw hK
   obtain ⟨f0,f1,f2,f3,f4,f5⟩:=hf it (by simp)
   exact wpAny_pyNext_range_end (I.ok.hd hc) st (by have:n≤i:=hg;omega) fun h' eb=>⟨rfl,I.turned (t':=s.toks) (fun b o hb e=>eb b o hb e) f0 f1 f3 f4 f5⟩
 self:=fun _ _ _ _ _ st h=>wpAny_pyIter_rangeiter st h
end L2
namespace L2
open PySem PySem.Spec PyProof.Rows
section
variable {X:Cx} {tg:Expr}
def qmn (K:PySem.W.Frag) (tl:TE):TI:=fun σ H R=>tl σ H fun x H1=>∃a,x = .ref a∧(∃xs,SqL K H1 a xs)∧R (Itl K a) H1
def qsc (K:PySem.W.Frag) (tl:TE):TI:=fun σ H R=>tl σ H fun x H1=>∃a,x = .ref a∧(∃xs,SqT K H1 a xs)∧R (Itt K a) H1
theorem qaM {l:Expr} {tl:TE} (hl:PE X l tl):PI X tg l (qmn X.K tl):=by
 intro pins s σ H R I h
 refine thn (hl pins s σ H _ I h) fun v s1 ⟨x,H1,I1,r1,q1⟩=>?_
 obtain ⟨a,e,⟨xs,hq⟩,q⟩:=q1
 subst e
 cases r1
 obtain ⟨its,rv,p,hz⟩:=I1.list hq
 refine wpAny_pyIter_list p.isList ?_
 refine ⟨s1.heap.objs.size,[s1.heap.objs.size],_,_,H1,rfl,I1.kept (t':=s1.toks) fun b o e=>Heap.get?_push_of_some _ e,qlu a _,⟨_,Heap.get?_push_size _ rfl,rfl,rfl⟩,fun b hb=>?_,q⟩
 have e:b=s1.heap.objs.size:=by simpa using hb
 subst e
 exact I1.fpOk (Nat.le_refl _) (I1.hok.fresh (Nat.le_refl _))
theorem qq8 {l:Expr} {tl:TE} (hl:PE X l tl):PI X tg l (qsc X.K tl):=by
 intro pins s σ H R I h
 refine thn (hl pins s σ H _ I h) fun v s1 ⟨x,H1,I1,r1,q1⟩=>?_
 obtain ⟨a,e,⟨xs,hq⟩,q⟩:=q1
 subst e
 cases r1
 obtain ⟨its,rv,p,hz⟩:=I1.tuple hq
 refine wpAny_pyIter_tuple (show s1.heap.IsTuple a its.toArray from p) ?_
 refine ⟨s1.heap.objs.size,[s1.heap.objs.size],_,_,H1,rfl,I1.kept (t':=s1.toks) fun b o e=>Heap.get?_push_of_some _ e,qjT a _,⟨_,Heap.get?_push_size _ rfl,rfl,rfl⟩,fun b hb=>?_,q⟩
 have e:b=s1.heap.objs.size:=by simpa using hb
 subst e
 exact I1.fpOk (Nat.le_refl _) (I1.hok.fresh (Nat.le_refl _))
theorem qji {pins:List (Addr×Obj)} {σ:St} {H:Hp} {s:Shared} {R:It→Hp→Prop} {E:Value→Shared→Prop} {lo hi:Int} {t u v:Tok} {tk:Nat} (I:Inv X pins σ H s) (h1:-(2^62)≤lo) (h2:lo<2^62) (h3:-(2^62)≤hi) (h4:hi<2^62)
   (q:R (Itr lo (hi-lo).toNat) H):wpAny (model X.prog X.w) X.A (pyIter (.ref s.heap.objs.size)) (PIE X pins σ tg R) E { s with heap:=s.heap.push { cls := .type "range",data := .fields #[.int lo t,.int hi u,.int 1 v] },toks:=tk }:=by
 refine wpAny_pyIter_range (IsRange.new ..) (small_one h1 h2 h3 h4) ?_
 have I1:Inv X pins σ H { s with heap:=s.heap.push { cls := .type "range",data := .fields #[.int lo t,.int hi u,.int 1 v] },toks:=tk }:=I.kept fun b o e=>Heap.get?_push_of_some _ e
 refine ⟨(s.heap.push { cls := .type "range",data := .fields #[.int lo t,.int hi u,.int 1 v] }).objs.size,[(s.heap.push { cls := .type "range",data := .fields #[.int lo t,.int hi u,.int 1 v] }).objs.size],_,_,H,rfl,
   I1.kept (t':=tk) fun b o e=>Heap.get?_push_of_some _ e,qjR _ lo (hi-lo).toNat,?_,fun b hb=>?_,q⟩
 · have e1:lo+((0:Nat):Int)*1=lo:=by simp
   have e2:(((hi-lo).toNat:Nat):Int)-((0:Nat):Int)=Builtin.Range.rangeSize lo hi 1:=by rw [rangeSize_one];split<;>omega
   show IsRangeIter _ _ (lo+((0:Nat):Int)*1) ((((hi-lo).toNat:Nat):Int)-((0:Nat):Int)) 1
   rw [e1,e2]
   exact Heap.get?_push_size _ rfl
 · have e:b=(s.heap.push { cls := .type "range",data := .fields #[.int lo t,.int hi u,.int 1 v] }).objs.size:=by simpa using hb
   subst e
   exact I1.fpOk (Nat.le_refl _) (I1.hok.fresh (Nat.le_refl _))
def qn6 (ta:TA):TI:=fun σ H R=>ta σ H fun vs H1=>∃j:Int,vs=[.int j]∧-(2^62)≤j∧j<2^62∧R (Itr 0 j.toNat) H1
def qpq (ta:TA):TI:=fun σ H R=>ta σ H fun vs H1=>∃i j:Int,vs=[.int i,.int j]∧(-(2^62)≤i∧i<2^62∧-(2^62)≤j∧j<2^62)∧R (Itr i (j-i).toNat) H1
theorem qaO {a:Expr} {ta:TA} {p pos:Pos} (hg:Gl X "range") (hm:X.mg "range" = none) (ha:PA X [a] ta) (hs:starEach [a] X.env=[(false,eval a X.env)]:=by rfl):PI X tg (.Call (.Name "range" p) [a] [] pos) (qn6 ta):=by
 intro pins s σ H R I h
 refine Call_ (qeE I hg hm boot_range (PyProof.Rows.callWith_type1 (thn (ha pos pins s σ H _ I h) fun us s1 ⟨vs,H1,I1,r1,q1⟩=>?_) hs rfl))
 obtain ⟨j,e,q1,q2,q⟩:=q1
 subst e
 cases r1 with
 | cons r rr =>
   cases rr
   obtain ⟨t,rfl⟩:=r
   exact call_range_1 (qji I1 (by omega) (by omega) q1 q2 (by simpa using q))
theorem qlr {a b:Expr} {ta:TA} {p pos:Pos} (hg:Gl X "range") (hm:X.mg "range" = none) (ha:PA X [a,b] ta) (hs:starEach [a,b] X.env=[(false,eval a X.env),(false,eval b X.env)]:=by rfl) (hs2:starEach [b] X.env=[(false,eval b X.env)]:=by rfl) :
   PI X tg (.Call (.Name "range" p) [a,b] [] pos) (qpq ta):=by
 intro pins s σ H R I h
 refine Call_ (qeE I hg hm boot_range (PyProof.Rows.callWith_type1 (thn (ha pos pins s σ H _ I h) fun us s1 ⟨vs,H1,I1,r1,q1⟩=>?_) (by rw [hs,hs2]) (by rw [hs2];rfl)))
 obtain ⟨i,j,e,⟨q1,q2,q3,q4⟩,q⟩:=q1
 subst e
 cases r1 with
 | cons r rr =>
   cases rr with
   | cons r' rr =>
     cases rr
     obtain ⟨t,rfl⟩:=r
     obtain ⟨t',rfl⟩:=r'
     exact call_range_2 (qji I1 q1 q2 q3 q4 q)
def qnl (wi:TI) (g:TG) (tb:TS):TS:=fun D σ H=>wi σ H fun J H1=>∃W:Nat→Nat→St→Hp→Prop,(∃m,W 0 m σ H1)∧∀i m σ H,W i m σ H →
 (J.stop i H∧D.nx σ H)∨(J.go i H∧∃N:St→Hp→Prop,(∀σ' H',N σ' H'→∃m',m'<m∧W (i+1) m' σ' H')∧∀x H',J.yld i H x H'→g x σ H' fun σ2 H2=>tb { D with nx:=N,ct:=N,bk:=D.nx } σ2 H2)
def qgw (fp:List Addr) (h:Heap):List (Addr×Obj):=fp.filterMap fun b=>(h.get? b).map fun o=>(b,o)
theorem qb9 {fp:List Addr} {h:Heap} {b:Addr} {o:Obj} (hb:b∈fp) (e:h.get? b=some o):(b,o)∈qgw fp h:=List.mem_filterMap.mpr ⟨b,hb,by rw [e];rfl⟩
theorem qkK {fp:List Addr} {h:Heap} {p:Addr×Obj} (hp:p∈qgw fp h):p.1∈fp∧h.get? p.1=some p.2:=by
 obtain ⟨b,hb,e⟩:=List.mem_filterMap.mp hp
 cases q:h.get? b with
 | none=>rw [q] at e;cases e
 | some o =>
   rw [q] at e
   have e':(b,o)=p:=Option.some.inj e
   subst e'
   exact ⟨hb,q⟩
theorem Inv.pinned {pins:List (Addr×Obj)} {σ:St} {H:Hp} {s:Shared} {fp:List Addr} (I:Inv X pins σ H s) (hf:∀b∈fp,qhp X pins H b) (ho:∀b∈fp,∃o,s.heap.get? b=some o∧∀v,o.data ≠ .cell v):Inv X (pins++qgw fp s.heap) σ H s :=
 I.pins_of fun p hp=>(List.mem_append.mp hp).elim (fun z=>I.pin p (List.mem_append_right _ z)) fun z=>by
   obtain ⟨hb,e⟩:=qkK z
   obtain ⟨f0,f1,f2,_⟩:=hf p.1 hb
   obtain ⟨o,e',d⟩:=ho p.1 hb
   rw [e] at e';cases e'
   exact ⟨e,f0,f1,f2,d⟩
theorem Inv.unpinned {pins pl:List (Addr×Obj)} {σ:St} {H:Hp} {s:Shared} (I:Inv X (pins++pl) σ H s):Inv X pins σ H s:=I.pins_of fun p hp=>I.pin p (List.mem_append_right _ (List.mem_append_left _ hp))
theorem qbo {iter:Expr} {body:List Stmt} {wi:TI} {g:TG} {tb:TS} {pos:Pos} (hp:PassesOwn (model X.prog X.w) X.A X.env X.xe) (hc:X.calm=true) (hi:PI X tg iter wi) (hg:PG X tg g) (hb:PSs X body tb)
   (hs:∀x,foldedSetIterable iter X.env x=pure x:=by intro _;rfl):PS X (.For tg iter body [] pos) (qnl wi g tb):=by
 intro pins s σ H D I h
 refine wpAny_For (thn (hi pins s σ H _ I h) fun v s1 h1=>thn h1 fun itv s2 h2=>?_) hs
 obtain ⟨it,fp,tn,J,H2,e,I2,T,st2,f2,W,⟨m0,w0⟩,turn⟩:=h2
 subst e
 -- what stays true of the iterator's objects through the loop
 have stat:∀{H':Hp},(∀b∈fp,H' b=none)→∀b∈fp,qhp X pins H' b:=fun hn b hb=>⟨hn b hb,(f2 b hb).2⟩
 refine codeAny_forLoop_any (fun n s'=>∃i σ' H',Inv X pins σ' H' s'∧tn i s'.heap∧(∀b∈fp,H' b=none)∧W i n σ' H') ?_ m0 ⟨0,σ,H2,I2,st2,fun b hb=>(f2 b hb).1,w0⟩
 rintro n s3 ⟨i,σ3,H3,I3,st3,fr3,w3⟩
 rcases turn i n σ3 H3 w3 with ⟨stop,qn⟩ | ⟨go,N,hN,step⟩
 · refine wpAny_passesOwn hp (thn (T.done X rfl rfl rfl hc i pins s3 σ3 H3 X.xe I3 (stat fr3) st3 stop) fun r s4 ⟨hr,I4⟩=>?_)
   subst hr
   exact wpAny_execs_nil ⟨σ3,H3,I4,qn⟩
 · refine wpAny_passesOwn hp (thn (T.item X rfl rfl rfl hc i pins s3 σ3 H3 X.xe I3 (stat fr3) st3 go) fun r s4 ⟨u,hr,h4⟩=>?_)
   subst hr
   refine wpAny_passesOwn hp (thn h4 fun _ s5 ⟨x,H5,I5,r5,y5,st5,fr5⟩=>?_)
   have I5':=I5.pinned (stat fr5) (T.obj _ _ st5)
   refine wpAny_passesOwn hp (thn (hg _ s5 σ3 H5 x u _ I5' r5 (step x H5 y5)) fun _ s6 ⟨σ6,H6,I6,q6⟩=>?_)
   refine wpAny_passesOwn hp (thn (hb _ s6 σ6 H6 _ I6 q6) fun f s7 q7=>?_)
   have again:∀{σ7:St} {H7:Hp},Inv X (pins++qgw fp s5.heap) σ7 H7 s7→N σ7 H7→∃m,m<n∧∃i σ' H',Inv X pins σ' H' s7∧tn i s7.heap∧(∀b∈fp,H' b=none)∧W i m σ' H':=fun {σ7 H7} I7 n7=>by
     obtain ⟨m',hm,w7⟩:=hN σ7 H7 n7
     refine ⟨m',hm,i+1,σ7,H7,I7.unpinned,T.keep _ _ _ st5 fun b hb o e=>(I7.pin (b,o) (List.mem_append_right _ (List.mem_append_right _ (qb9 hb e)))).1,fun b hb=>?_,w7⟩
     obtain ⟨o,e,d⟩:=T.obj _ _ st5 b hb
     exact (I7.pin (b,o) (List.mem_append_right _ (List.mem_append_right _ (qb9 hb e)))).2.1
   cases f with
   | next=>obtain ⟨σ7,H7,I7,n7⟩:=q7;exact again I7 n7
   | cont=>obtain ⟨σ7,H7,I7,n7⟩:=q7;exact again I7 n7
   | brk=>obtain ⟨σ7,H7,I7,q7⟩:=q7;exact ⟨σ7,H7,I7.unpinned,q7⟩
   | ret v=>obtain ⟨x7,σ7,H7,I7,r7,q7⟩:=q7;exact ⟨x7,σ7,H7,I7.unpinned,r7,q7⟩
end
theorem qmF {K:PySem.W.Frag} {a:Addr} {xs:List V} {g:TG} {tb:TS} {D:qgd} {σ:St} {H:Hp} (Pv:Nat→St→Hp→Prop) (h0:Pv 0 σ H) (hl:∀i σ H,i≤xs.length→Pv i σ H→SqL K H a xs)
   (hs:∀i x σ H,xs[i]?=some x→Pv i σ H→g x σ H fun σ2 H2=>tb { D with nx:=Pv (i+1),ct:=Pv (i+1),bk:=D.nx } σ2 H2) (hd:∀σ H,Pv xs.length σ H→D.nx σ H) :
   ∃W:Nat→Nat→St→Hp→Prop,(∃m,W 0 m σ H)∧∀i m σ H,W i m σ H →
     ((Itl K a).stop i H∧D.nx σ H)∨((Itl K a).go i H∧∃N:St→Hp→Prop,(∀σ' H',N σ' H'→∃m',m'<m∧W (i+1) m' σ' H')∧∀x H',(Itl K a).yld i H x H'→g x σ H' fun σ2 H2=>tb { D with nx:=N,ct:=N,bk:=D.nx } σ2 H2):=by
 refine ⟨fun i m σ H=>m=xs.length-i∧i≤xs.length∧Pv i σ H,⟨xs.length,by simp,Nat.zero_le _,h0⟩,?_⟩
 rintro i m σ H ⟨rfl,hi,p⟩
 have q:=hl i σ H hi p
 by_cases hlt:i<xs.length
 · refine .inr ⟨⟨xs,xs[i],q,by simp [hlt]⟩,Pv (i+1),fun σ' H' p'=>⟨xs.length-(i+1),by omega,rfl,hlt,p'⟩,fun x H' y=>?_⟩
   obtain ⟨e,y⟩:=y
   subst e
   exact hs i x σ _ (y xs q) p
 · have e:i=xs.length:=by omega
   subst e
   exact .inl ⟨⟨xs,q,Nat.le_refl _⟩,hd σ H p⟩
theorem qlJ {lo:Int} {n:Nat} {g:TG} {tb:TS} {D:qgd} {σ:St} {H:Hp} (Pv:Nat→St→Hp→Prop) (h0:Pv 0 σ H)
   (hs:∀i σ H,i<n→Pv i σ H→g (.int (lo+i)) σ H fun σ2 H2=>tb { D with nx:=Pv (i+1),ct:=Pv (i+1),bk:=D.nx } σ2 H2) (hd:∀σ H,Pv n σ H→D.nx σ H) :
   ∃W:Nat→Nat→St→Hp→Prop,(∃m,W 0 m σ H)∧∀i m σ H,W i m σ H →
     ((Itr lo n).stop i H∧D.nx σ H)∨((Itr lo n).go i H∧∃N:St→Hp→Prop,(∀σ' H',N σ' H'→∃m',m'<m∧W (i+1) m' σ' H')∧∀x H',(Itr lo n).yld i H x H'→g x σ H' fun σ2 H2=>tb { D with nx:=N,ct:=N,bk:=D.nx } σ2 H2):=by
 refine ⟨fun i m σ H=>m=n-i∧i≤n∧Pv i σ H,⟨n,by simp,Nat.zero_le _,h0⟩,?_⟩
 rintro i m σ H ⟨rfl,hi,p⟩
 by_cases hlt:i<n
 · refine .inr ⟨hlt,Pv (i+1),fun σ' H' p'=>⟨n-(i+1),by omega,rfl,hlt,p'⟩,fun x H' y=>?_⟩
   obtain ⟨e,y⟩:=y
   subst e y
   exact hs i σ _ hlt p
 · have e:i=n:=by omega
   subst e
   exact .inl ⟨Nat.le_refl _,hd σ H p⟩
end L2
namespace L2
open PySem PySem.Spec PyProof.Rows
abbrev R2:=V→V→Hp→VK→Prop
def OpR (X:Cx) (f:Value→Value→Sem Value) (r:R2):Prop :=
 ∀(pins:List (Addr×Obj)) (s:Shared) (σ:St) (H:Hp) (x y:V) (v u:Value) (Q:VK),Inv X pins σ H s→qbE x v→qbE y u→r x y H Q →
   wpAny (model X.prog X.w) X.A (f v u) (EP X pins σ Q) X.xe s
def UnR (X:Cx) (f:Value→Sem Value) (r:V→Hp→VK→Prop):Prop :=
 ∀(pins:List (Addr×Obj)) (s:Shared) (σ:St) (H:Hp) (x:V) (v:Value) (Q:VK),Inv X pins σ H s→qbE x v→r x H Q →
   wpAny (model X.prog X.w) X.A (f v) (EP X pins σ Q) X.xe s
def qcV (X:Cx) (f:Value) (r:List V→Hp→VK→Prop):Prop :=
 ∀(pins:List (Addr×Obj)) (s:Shared) (σ:St) (H:Hp) (xs:List V) (us:List Value) (Q:VK),Inv X pins σ H s→qbd xs us→r xs H Q →
   wpAny (model X.prog X.w) X.A (call f us) (EP X pins σ Q) X.xe s
def tOp (r:R2) (ta tb:TE):TE:=fun σ H Q=>ta σ H fun x H1=>tb σ H1 fun y H2=>r x y H2 Q
def tUn (r:V→Hp→VK→Prop) (ta:TE):TE:=fun σ H Q=>ta σ H fun x H1=>r x H1 Q
def rI (C:Int→Int→Prop) (g:Int→Int→V):R2:=fun x y H Q=>∃i j,x = .int i∧y = .int j∧C i j∧Q (g i j) H
def rI0 (g:Int→Int→V):R2:=fun x y H Q=>∃i j,x = .int i∧y = .int j∧Q (g i j) H
def rU (g:Int→V):V→Hp→VK→Prop:=fun x H Q=>∃i,x = .int i∧Q (g i) H
section
variable {X:Cx} {a b c:Expr} {ta tb tc:TE} {pos:Pos}
theorem qrg (ha:PE X a ta) (hb:PE X b tb) {pins:List (Addr×Obj)} {s:Shared} {σ:St} {H:Hp} {R:V→V→Hp→Prop} (I:Inv X pins σ H s)
   (h:ta σ H fun x H1=>tb σ H1 fun y H2=>R x y H2) {Q:Value→Shared→Prop} {f:Value→Value→Sem Value}
   (hf:∀v u s2 x y H2,Inv X pins σ H2 s2→qbE x v→qbE y u→R x y H2→wpAny (model X.prog X.w) X.A (f v u) Q X.xe s2) :
   wpAny (model X.prog X.w) X.A (eval a X.env) (fun v s₁=>wpAny (model X.prog X.w) X.A (eval b X.env) (fun u s₂=>wpAny (model X.prog X.w) X.A (f v u) Q X.xe s₂) X.xe s₁) X.xe s:=by
 refine thn (ha pins s σ H _ I h) fun v s1 ⟨x,H1,I1,r1,q1⟩=>?_
 refine thn (hb pins s1 σ H1 _ I1 q1) fun u s2 ⟨y,H2,I2,r2,q2⟩=>?_
 exact hf v u s2 x y H2 I2 r1 r2 q2
theorem qaq {op:Operator} {r:R2} (ho:OpR X (binaryOp op) r) (ha:PE X a ta) (hb:PE X b tb):PE X (.BinOp a op b pos) (tOp r ta tb):=by
 intro pins s σ H Q I h
 exact wpAny_BinOp (qrg ha hb I h fun v u s2 x y H2 I2 rx ry q=>ho pins s2 σ H2 x y v u Q I2 rx ry q)
theorem qp7 {op:UnaryOp} {r:V→Hp→VK→Prop} (ho:UnR X (unaryOp op) r) (ha:PE X a ta):PE X (.UnaryOp op a pos) (tUn r ta):=by
 intro pins s σ H Q I h
 exact UnaryOp_ (thn (ha pins s σ H _ I h) fun v s1 ⟨x,H1,I1,r1,q1⟩=>ho pins s1 σ H1 x v Q I1 r1 q1)
theorem opI {f:Value→Value→Sem Value} {C:Int→Int→Prop} {g:Int→Int→Int}
   (rule:∀(i j:Int) (t u:Tok) (s:Shared) (Q:Value→Shared→Prop) (E:Value→Shared→Prop),C i j→Q (.int (g i j) s.toks) { s with toks:=s.toks+1 }→wpAny (model X.prog X.w) X.A (f (.int i t) (.int j u)) Q E s) :
   OpR X f (rI C fun i j => .int (g i j)):=by
 intro pins s σ H x y v u Q I rx ry h
 obtain ⟨i,j,rfl,rfl,hc,q⟩:=h
 obtain ⟨t,rfl⟩:=rx
 obtain ⟨t',rfl⟩:=ry
 exact rule i j t t' s _ _ hc ⟨.int (g i j),H,I.tok _,⟨_,rfl⟩,q⟩
theorem qrj {f:Value→Value→Sem Value} {g:Int→Int→Int}
   (rule:∀(i j:Int) (t u:Tok) (s:Shared) (Q:Value→Shared→Prop) (E:Value→Shared→Prop),Q (.int (g i j) s.toks) { s with toks:=s.toks+1 }→wpAny (model X.prog X.w) X.A (f (.int i t) (.int j u)) Q E s) :
   OpR X f (rI0 fun i j => .int (g i j)):=by
 intro pins s σ H x y v u Q I rx ry h
 obtain ⟨i,j,rfl,rfl,q⟩:=h
 obtain ⟨t,rfl⟩:=rx
 obtain ⟨t',rfl⟩:=ry
 exact rule i j t t' s _ _ ⟨.int (g i j),H,I.tok _,⟨_,rfl⟩,q⟩
theorem qrd {f:Value→Value→Sem Value} {g:Int→Int→Bool}
   (rule:∀(i j:Int) (t u:Tok) (s:Shared) (Q:Value→Shared→Prop) (E:Value→Shared→Prop),Q (.bool (g i j)) s→wpAny (model X.prog X.w) X.A (f (.int i t) (.int j u)) Q E s) :
   OpR X f (rI0 fun i j => .bl (g i j)):=by
 intro pins s σ H x y v u Q I rx ry h
 obtain ⟨i,j,rfl,rfl,q⟩:=h
 obtain ⟨t,rfl⟩:=rx
 obtain ⟨t',rfl⟩:=ry
 exact rule i j t t' s _ _ ⟨.bl (g i j),H,I,rfl,q⟩
def qrw (i j:Int):Prop:=0≤j∧j≤1000000∧i.natAbs<2^64
def qrP (i j:Int):Prop:=(-(2^64)<i∧i<2^64)∨(-(2^64)<j∧j<2^64)
theorem qrP.ok {i j:Int} (h:qrP i j):IntMulOk i j:=by
 rcases h with ⟨h1,h2⟩ | ⟨h1,h2⟩
 · exact .of_left (intBits_le_64 h1 h2)
 · exact .of_right (intBits_le_64 h1 h2)
theorem qj9 (k:Nat):(0:Int)≤2^k:=by
 rw [two_pow_cast]
 exact Int.natCast_nonneg _
theorem qcJ:OpR X (binaryOp .Add) (rI0 fun i j => .int (i+j)):=qrj fun _ _ _ _ _ _ _ q=>add_int q
theorem qjq:OpR X (binaryOp .Sub) (rI0 fun i j => .int (i-j)):=qrj fun _ _ _ _ _ _ _ q=>sub_int q
theorem qgp:OpR X (binaryOp .Mult) (rI qrP fun i j => .int (i*j)):=opI fun _ _ _ _ _ _ _ hc q=>mul_int q hc.ok
theorem qbt:OpR X (binaryOp .Mod) (rI (fun _ j=>0<j) fun i j => .int (i%j)):=opI fun i j _ _ _ _ _ hc q=>by
 have h1:(0:Int)<j:=hc
 exact mod_int' (by omega) (by rw [Int.fmod_eq_emod_of_nonneg i (by omega)];exact q)
theorem qpR:OpR X (binaryOp .Pow) (rI qrw fun i j => .int (i^j.toNat)):=opI fun _ _ _ _ _ _ _ hc q=>pow_int_small hc.1 hc.2.1 hc.2.2 q
theorem qbx:OpR X (binaryOp .LShift) (rI qrw fun i j => .int (i*2^j.toNat)):=opI fun _ _ _ _ _ _ _ hc q=>lshift_int_small hc.1 hc.2.1 hc.2.2 q
theorem qkq:OpR X (binaryOp .RShift) (rI (fun _ j=>0≤j) fun i j => .int (i/2^j.toNat)):=opI fun i j _ _ _ _ _ hc q =>
 rshift_int hc (by rw [Int.fdiv_eq_ediv_of_nonneg i (qj9 _)];exact q)
theorem qcz:OpR X (binaryOp .BitAnd) (rI0 fun i j => .int (Builtin.bitAnd i j)):=qrj fun _ _ _ _ _ _ _ q=>and_int q
theorem qi0:OpR X (binaryOp .BitOr) (rI0 fun i j => .int (Builtin.bitOr i j)):=qrj fun _ _ _ _ _ _ _ q=>or_int q
theorem unI {f:Value→Sem Value} {g:Int→Int}
   (rule:∀(i:Int) (t:Tok) (s:Shared) (Q:Value→Shared→Prop) (E:Value→Shared→Prop),Q (.int (g i) s.toks) { s with toks:=s.toks+1 }→wpAny (model X.prog X.w) X.A (f (.int i t)) Q E s) :
   UnR X f (rU fun i => .int (g i)):=by
 intro pins s σ H x v Q I rx h
 obtain ⟨i,rfl,q⟩:=h
 obtain ⟨t,rfl⟩:=rx
 exact rule i t s _ _ ⟨.int (g i),H,I.tok _,⟨_,rfl⟩,q⟩
theorem qp8:UnR X (unaryOp .USub) (rU fun i => .int (-i)):=unI fun _ _ _ _ _ q=>neg_int q
theorem qpD:UnR X (unaryOp .Invert) (rU fun i => .int (Builtin.bitNot i)):=unI fun _ _ _ _ _ q=>invert_int q
end
def qmd:V→V→Bool
 | .non,.non=>true | .non,.int _=>true | .int _,.non=>true | .non,.bl _=>true | .bl _,.non=>true | .non,.str _=>true | .str _,.non=>true
 | .int _,.int _=>true | .bl _,.bl _=>true | .str _,.str _=>true | .byt _,.byt _=>true
 | .int _,.str _=>true | .str _,.int _=>true | .bl _,.str _=>true | .str _,.bl _=>true
 | _,_=>false
def rEq:R2:=fun x y H Q=>qmd x y=true∧Q (.bl (decide (x=y))) H
def rNe:R2:=fun x y H Q=>qmd x y=true∧Q (.bl (!decide (x=y))) H
theorem qlU {i j:Int}:decide (V.int i=V.int j)=(i==j):=by
 rw [Bool.eq_iff_iff]
 simp
theorem qnv {i j:Bool}:decide (V.bl i=V.bl j)=(i==j):=by
 rw [Bool.eq_iff_iff]
 simp
theorem qlX {i j:Str}:decide (V.str i=V.str j)=(i==j):=by
 rw [Bool.eq_iff_iff]
 simp
theorem qkL {i j:Array UInt8}:decide (V.byt i=V.byt j)=(i.toList==j.toList):=by
 rw [Bool.eq_iff_iff]
 cases i
 cases j
 simp
section
variable {X:Cx} {a b c:Expr} {ta tb tc:TE} {pos:Pos}
theorem qaR {pins:List (Addr×Obj)} {σ:St} {H:Hp} {s:Shared} {Q:VK} {k k':Bool} (I:Inv X pins σ H s) (q:Q (.bl k) H) (e:k=k'):EP X pins σ Q (.bool k') s:=by
 subst e
 exact ⟨.bl k,H,I,rfl,q⟩
theorem qrO:OpR X (compareOp .Eq) rEq:=by
 intro pins s σ H x y v u Q I rx ry h
 obtain ⟨hs,q⟩:=h
 cases x with
 | non =>
   cases rx
   cases y with
   | non=>cases ry;exact PySem.EqNone.eq_none_none (qaR I q (by simp))
   | bl j=>cases ry;exact PySem.EqNone.eq_none_bool (qaR I q (by simp))
   | int j=>obtain ⟨t',rfl⟩:=ry;exact PySem.EqNone.eq_none_int (qaR I q (by simp))
   | str j=>obtain ⟨t',rfl⟩:=ry;exact PySem.EqNone.eq_none_str (qaR I q (by simp))
   | _=>exact absurd (show false=true from hs) Bool.false_ne_true
 | bl i =>
   cases rx
   cases y with
   | non=>cases ry;exact PySem.EqNone.eq_bool_none (qaR I q (by simp))
   | bl j=>cases ry;exact eq_bool (qaR I q qnv)
   | str j=>obtain ⟨t',rfl⟩:=ry;exact PySem.EqMixed.eq_bool_str (qaR I q (by simp))
   | _=>exact absurd (show false=true from hs) Bool.false_ne_true
 | int i =>
   obtain ⟨t,rfl⟩:=rx
   cases y with
   | non=>cases ry;exact PySem.EqNone.eq_int_none (qaR I q (by simp))
   | int j=>obtain ⟨t',rfl⟩:=ry;exact eq_int (qaR I q qlU)
   | str j=>obtain ⟨t',rfl⟩:=ry;exact PySem.EqMixed.eq_int_str (qaR I q (by simp))
   | _=>exact absurd (show false=true from hs) Bool.false_ne_true
 | str i =>
   obtain ⟨t,rfl⟩:=rx
   cases y with
   | non=>cases ry;exact PySem.EqNone.eq_str_none (qaR I q (by simp))
   | bl j=>cases ry;exact PySem.EqMixed.eq_str_bool (qaR I q (by simp))
   | int j=>obtain ⟨t',rfl⟩:=ry;exact PySem.EqMixed.eq_str_int (qaR I q (by simp))
   | str j=>obtain ⟨t',rfl⟩:=ry;exact eq_str (qaR I q qlX)
   | _=>exact absurd (show false=true from hs) Bool.false_ne_true
 | byt i =>
   obtain ⟨t,rfl⟩:=rx
   cases y with
   | byt j=>obtain ⟨t',rfl⟩:=ry;exact PySem.W.eq_bytes (qaR I q qkL)
   | _=>exact absurd (show false=true from hs) Bool.false_ne_true
 | _=>cases y<;>exact absurd (show false=true from hs) Bool.false_ne_true
theorem qrR:OpR X (compareOp .NotEq) rNe:=by
 intro pins s σ H x y v u Q I rx ry h
 obtain ⟨hs,q⟩:=h
 cases x with
 | non =>
   cases rx
   cases y with
   | non=>cases ry;exact PySem.EqNone.ne_none_none (qaR I q (by simp))
   | bl j=>cases ry;exact PySem.EqNone.ne_none_bool (qaR I q (by simp))
   | int j=>obtain ⟨t',rfl⟩:=ry;exact PySem.EqNone.ne_none_int (qaR I q (by simp))
   | str j=>obtain ⟨t',rfl⟩:=ry;exact PySem.EqNone.ne_none_str (qaR I q (by simp))
   | _=>exact absurd (show false=true from hs) Bool.false_ne_true
 | bl i =>
   cases rx
   cases y with
   | non=>cases ry;exact PySem.EqNone.ne_bool_none (qaR I q (by simp))
   | bl j=>cases ry;exact ne_bool (qaR I q (congrArg not qnv))
   | str j=>obtain ⟨t',rfl⟩:=ry;exact PySem.EqMixed.ne_bool_str (qaR I q (by simp))
   | _=>exact absurd (show false=true from hs) Bool.false_ne_true
 | int i =>
   obtain ⟨t,rfl⟩:=rx
   cases y with
   | non=>cases ry;exact PySem.EqNone.ne_int_none (qaR I q (by simp))
   | int j=>obtain ⟨t',rfl⟩:=ry;exact ne_int (qaR I q (congrArg not qlU))
   | str j=>obtain ⟨t',rfl⟩:=ry;exact PySem.EqMixed.ne_int_str (qaR I q (by simp))
   | _=>exact absurd (show false=true from hs) Bool.false_ne_true
 | str i =>
   obtain ⟨t,rfl⟩:=rx
   cases y with
   | non=>cases ry;exact PySem.EqNone.ne_str_none (qaR I q (by simp))
   | bl j=>cases ry;exact PySem.EqMixed.ne_str_bool (qaR I q (by simp))
   | int j=>obtain ⟨t',rfl⟩:=ry;exact PySem.EqMixed.ne_str_int (qaR I q (by simp))
   | str j=>obtain ⟨t',rfl⟩:=ry;exact ne_str (qaR I q (congrArg not qlX))
   | _=>exact absurd (show false=true from hs) Bool.false_ne_true
 | byt i =>
   obtain ⟨t,rfl⟩:=rx
   cases y with
   | byt j=>obtain ⟨t',rfl⟩:=ry;exact PySem.W.ne_bytes (qaR I q (congrArg not qkL))
   | _=>exact absurd (show false=true from hs) Bool.false_ne_true
 | _=>cases y<;>exact absurd (show false=true from hs) Bool.false_ne_true
theorem qoA:OpR X (compareOp .Lt) (rI0 fun i j => .bl (decide (i<j))):=qrd fun _ _ _ _ _ _ _ q=>lt_int q
theorem qm2:OpR X (compareOp .LtE) (rI0 fun i j => .bl (decide (i≤j))):=qrd fun _ _ _ _ _ _ _ q=>le_int q
theorem qoS:OpR X (compareOp .Gt) (rI0 fun i j => .bl (decide (j<i))):=qrd fun _ _ _ _ _ _ _ q=>gt_int q
theorem qrI:OpR X (compareOp .GtE) (rI0 fun i j => .bl (decide (j≤i))):=qrd fun _ _ _ _ _ _ _ q=>ge_int q
theorem qao (b:Expr) {op:CmpOp} (h:op ≠ .In:=by decide) (h2:op ≠ .NotIn:=by decide):behindInMarks op b=false:=by
 have e1:(op==CmpOp.In)=false:=by cases op<;>first | rfl | exact absurd rfl h
 have e2:(op==CmpOp.NotIn)=false:=by cases op<;>first | rfl | exact absurd rfl h2
 cases b<;>simp [behindInMarks,e1,e2]
theorem qb1 {op:CmpOp} {r:R2} (ho:OpR X (compareOp op) r) (ha:PE X a ta) (hb:PE X b tb) (hm:behindInMarks op b=false):PE X (.Compare a [op] [b] pos) (tOp r ta tb):=by
 intro pins s σ H Q I h
 exact wpAny_Compare1 (qrg ha hb I h fun v u s2 x y H2 I2 rx ry q=>ho pins s2 σ H2 x y v u Q I2 rx ry q) hm
def qqZ (t:TE):TT:=fun σ H Q=>t σ H fun x H'=>∃k,x = .bl k∧Q k H'
theorem qaj {op:CmpOp} {r:R2} (ho:OpR X (compareOp op) r) (ha:PE X a ta) (hb:PE X b tb) (hm:behindInMarks op b=false):PT X (.Compare a [op] [b] pos) (qqZ (tOp r ta tb)):=by
 intro pins s σ H Q I h
 refine wpAny_isTrue_Compare1 (thn (ha pins s σ H _ I h) fun v s1 ⟨x,H1,I1,r1,q1⟩=>thn (hb pins s1 σ H1 _ I1 q1) fun u s2 ⟨y,H2,I2,r2,q2⟩ =>
   thn (ho pins s2 σ H2 x y v u _ I2 r1 r2 q2) fun c s3 ⟨z,H3,I3,r3,k,e,q3⟩=>?_) hm
 subst e
 cases r3
 exact wpAny_truthy_bool ⟨H3,I3,q3⟩
def qnu (r r':R2) (ta tb tc:TE):TE:=fun σ H Q=>ta σ H fun x H1=>tb σ H1 fun y H2=>r x y H2 fun z H3=>∃k,z = .bl k ∧
 (if k=true then tc σ H3 fun w' H4=>r' y w' H4 Q else Q (.bl false) H3)
theorem qha {op op':CmpOp} {r r':R2} (ho:OpR X (compareOp op) r) (ho':OpR X (compareOp op') r') (ha:PE X a ta) (hb:PE X b tb) (hc:PE X c tc)
   (hm:lastMarks [op,op'] [b,c]=false:=by with_unfolding_all rfl):PE X (.Compare a [op,op'] [b,c] pos) (qnu r r' ta tb tc):=by
 intro pins s σ H Q I h
 refine Compare_chain (thn (ha pins s σ H _ I h) fun v s1 ⟨x,H1,I1,r1,q1⟩=>chain_link (thn (hb pins s1 σ H1 _ I1 q1) fun u s2 ⟨y,H2,I2,r2,q2⟩ =>
   thn (ho pins s2 σ H2 x y v u _ I2 r1 r2 q2) fun d s3 ⟨z,H3,I3,r3,k,e,q3⟩=>?_)) hm
 subst e
 cases r3
 refine wpAny_truthy_bool ?_
 cases k with
 | false=>exact ite_ff ⟨.bl false,H3,I3,rfl,q3⟩
 | true=>exact ite_tt (chain_last (thn (hc pins s3 σ H3 _ I3 q3) fun w' s4 ⟨z',H4,I4,r4,q4⟩=>ho' pins s4 σ H4 y z' u w' Q I4 r2 r4 q4))
theorem qhL:(sizeLine:Nat)<2^63:=by rw [sizeLine_eq];decide
theorem qat:OpR X (binaryOp .Add) (fun x y H Q=>∃i j,x = .str i∧y = .str j∧i.length+j.length≤sizeLine∧Q (.str (i++j)) H):=by
 intro pins s σ H x y v u Q I rx ry h
 obtain ⟨i,j,rfl,rfl,hz,q⟩:=h
 obtain ⟨t,rfl⟩:=rx
 obtain ⟨t',rfl⟩:=ry
 exact add_str (fun t' tk=>⟨.str (i++j),H,I.tok _,⟨_,rfl⟩,q⟩) hz
def qm9 (b:Expr):Prop:=∀o i,subscripted b false o i=operate [o,i] (getItem o i)
theorem qcK (ha:PE X a ta) (hb:PE X b tb) (hs:qm9 b) :
   PE X (.Subscript a b pos) (tOp (fun x y H Q=>∃z i c,x = .str z∧y = .int i∧0≤i∧i<2^63∧i<z.length∧z.cps[i.toNat]?=some c∧Q (.str ⟨#[c]⟩) H) ta tb):=by
 intro pins s σ H Q I h
 refine Subscript_ (qrg ha hb I h fun v u s2 x y H2 I2 rx ry q=>?_)
 obtain ⟨z,i,c,rfl,rfl,h0,h63,h1,hc,q⟩:=q
 obtain ⟨t,rfl⟩:=rx
 obtain ⟨t',rfl⟩:=ry
 have e:seqIndex? i z.length=some i.toNat:=PySem.StrLaws.seqIndex_nonneg h0 h1
 exact tail_any (typeIs_str s2 z t) slot_str_getitem.lookup (getItem_str (c:=c) (by
   have e1:decide (i < -(2^63:Int))=false:=decide_eq_false (by omega)
   have e2:decide (i≥2^63)=false:=decide_eq_false (by omega)
   rw [e1,e2]<;>rfl) (by rw [e];exact hc) ⟨.str ⟨#[c]⟩,H2,I2.tok _,⟨_,rfl⟩,q⟩) (hs _ _)
theorem qdD {x:V} {us:List Value} (r:qbd [x] us):∃u,us=[u]∧qbE x u:=by
 cases r with
 | cons r1 r2=>cases r2;exact ⟨_,rfl,r1⟩
theorem qn9 {x y:V} {us:List Value} (r:qbd [x,y] us):∃u w',us=[u,w']∧qbE x u∧qbE y w':=by
 cases r with
 | cons r1 r2 =>
   cases r2 with
   | cons r3 r4=>cases r4;exact ⟨_,_,rfl,r1,r3⟩
theorem qhO:qcV X (.type "int") (fun xs H Q=>(∃i,xs=[.int i]∧Q (.int i) H)∨∃k,xs=[.bl k]∧Q (.int (if k then 1 else 0)) H):=by
 intro pins s σ H xs us Q I r h
 rcases h with ⟨i,rfl,q⟩ | ⟨k,rfl,q⟩
 · obtain ⟨u,rfl,t,rfl⟩:=qdD r
   exact call_int_int ⟨.int i,H,I,⟨_,rfl⟩,q⟩
 · obtain ⟨u,rfl,r1⟩:=qdD r
   cases r1
   exact call_int_bool ⟨.int (if k then 1 else 0),H,I.tok _,⟨_,rfl⟩,q⟩
theorem qij:qcV X (.type "str") (fun xs H Q=>∃i,xs=[.int i]∧i.natAbs.log2<1920∧Q (.str (toString i)) H):=by
 intro pins s σ H xs us Q I r h
 obtain ⟨i,rfl,hz,q⟩:=h
 obtain ⟨u,rfl,t,rfl⟩:=qdD r
 exact PySem.P.str_of_int hz ⟨.str _,H,I.tok _,⟨_,rfl⟩,q⟩
end
end L2
namespace L2
open PySem PySem.Spec PyProof.Rows
structure qon (h:Heap) (x dx C:Addr) (mA:Str→Option Value):Prop where
 obj:h.get? x=some (PySem.W.instObj C dx)
 ns:h.Ns1 dx mA
 ne:dx≠x
theorem qk8 {h:Heap} {dx:Addr} {mA:Str→Option Value} (n:h.Ns1 dx mA):∃od,h.get? dx=some od∧∀name,PySem.W.lookIn name od=some (mA name):=by
 obtain ⟨o,es,ep,ho,hd,hk,_,hm⟩:=n
 refine ⟨o,ho,fun name=>?_⟩
 have e:=hm name
 unfold nsFind findBy at e
 rw [←Array.find?_toList] at e
 unfold PySem.W.lookIn
 rw [hd]
 dsimp only
 split
 · rename_i y q
   rw [q] at e
   exact congrArg some e
 · rename_i q
   rw [q] at e
   have a:es.toList.any (·.refKey)=false:=by
     rw [List.any_eq_false]
     intro y hy
     obtain ⟨z,t,hkey⟩:=hk y (Array.mem_toList_iff.mp hy)
     simp [DictEntry.refKey,hkey]
   have a':¬es.toList.any (·.refKey)=true:=by rw [a];exact Bool.false_ne_true
   rw [if_neg a']
   exact congrArg some e
theorem qon.look {h:Heap} {x dx C:Addr} {mA:Str→Option Value} (I:qon h x dx C mA):∃od,PySem.W.InstAt h x (PySem.W.instObj C dx) C (some od)∧∀name,PySem.W.lookIn name od=some (mA name) :=
 let ⟨od,ho,hl⟩:=qk8 I.ns
 ⟨od,⟨I.obj,rfl,rfl,ho⟩,hl⟩
section
variable {prog:Program} {w:World} {A:Around} {E:Value→Shared→Prop} {s:Shared} {K:PySem.W.Frag} {x dx C f:Addr} {mA:Str→Option Value} {name:Str} {v:Value}
theorem qpn {expr:Bool} {Q:Value→Shared→Prop} (X:K.In s.heap) (I:qon s.heap x dx C mA) (hg:PySem.W.plainGet K C name=true) (hh:PySem.W.hasDictIn K C=true)
   (ha:PySem.W.findIn K (.ref C) name=some none) (hv:mA name=some v) (hv':PySem.W.handedIn v=true) (h:Q v { s with toks:=s.toks+1 }) :
   wpAny (model prog w) A (getAttr (.ref x) name expr) Q E s:=by
 obtain ⟨od,J,hl⟩:=I.look
 exact PySem.W.get_value X J (PySem.W.plainGet_of hg).1 (PySem.W.findObj_own hh ha rfl (by rw [hl,hv])) hv' h
theorem qm7 {pl:Sem Bool} {Q:Value×List Value→Shared→Prop} (X:K.In s.heap) (I:qon s.heap x dx C mA) (hg:PySem.W.plainGet K C name=true)
   (hf:PySem.W.findIn K (.ref C) name=some (some (.ref f))) (ht:PySem.W.isFn K (.ref f)=true) (hv:mA name=none) (h:Q (.ref f,[.ref x]) s) :
   wpAny (model prog w) A (getMethod (.ref x) name pl) Q E s:=by
 obtain ⟨od,J,hl⟩:=I.look
 exact PySem.W.method_fn X J (PySem.W.plainGet_of hg).1 (PySem.W.plainGet_of hg).2 hf (beq_iff_eq.mp ht) (by show (PySem.W.lookIn name od).map (·.isSome)=some false;rw [hl,hv];rfl) h
theorem qot {ns:List Str} {Q:Unit→Shared→Prop} (X:K.In s.heap) (I:qon s.heap x dx C mA)
   (hs:PySem.W.findIn K (.ref C) "__setattr__" = some (some (.builtin "object.__setattr__"))) (hp:PySem.W.plainOver K C=true) (ht:PySem.W.takerIn K C name=some none) (hh:PySem.W.hasDictIn K C=true)
   (hw:PySem.Within mA ns) (hsz:ns.length≤sizeLine)
   (h:∀h',qon h' x dx C (fun y=>if y=name then some v else mA y)→Heap.SameBut dx s.heap h'→Q () { s with heap:=h',toks:=s.toks+2 }) :
   wpAny (model prog w) A (setAttr (.ref x) name v) Q E s:=by
 obtain ⟨od,J,hl⟩:=I.look
 refine PySem.W.set_plain X J hs (PySem.W.osa_open (s:={ s with toks:=s.toks+1 }) (r:=none) X J hp ht fun b=>?_)
 obtain ⟨cd,hc,hd'⟩:=PySem.W.any_some hh
 have hx:s.heap.get? x=some ⟨.ref C,some dx,.plain,#[]⟩:=I.obj
 refine wpAny_bind (wpAny_pure (wpAny_bind (wpAny_bind (wpAny_loadPart hx (wpAny_bind (PySem.W.Looks.here (s:={ s with toks:=s.toks+1 }) (PySem.W.looks_clsIn X hc) ?_))))))
 rw [hd']
 refine wpAny_pure (a:=some dx) (wpAny_bind (wpAny_pure (wpAny_bind ?_)))
 refine wpAny_nsSet1 (s:={ s with toks:=s.toks+1 }) I.ns fun h' hn2 hs2=>?_
 obtain ⟨oD,esD,epD,hoD,hdD,hcD⟩:=hn2.count (PySem.Within.cons name v hw)
 refine wpAny_bind (wpAny_lookBehind hoD (by rw [hdD];exact pastItsLine_dict (Nat.le_trans hcD (by rw [List.length_cons];omega))) ?_)
 exact wpAny_pure (h _ ⟨(hs2.2 _ (Ne.symm I.ne)).trans I.obj,hn2,I.ne⟩ hs2)
theorem qnf {R:Result→Shared→Prop} {vs:List Value} {kw:List (Str×Value)} (X:K.In s.heap) (hm:PySem.W.makesIn K C=true)
   (hi:PySem.W.findIn K (.ref C) "__init__" = some (some (.ref f))) (hf:PySem.W.typeIn K (.ref f)=some (.type "function"))
   (h:codeAny (model prog w) (A.under (.builtin "type.__call__" ⟨.ref C::vs,kw⟩)) (.call (.ref f) ⟨.ref (s.heap.objs.size+1)::vs,kw⟩) (PySem.W.InitBack (s.heap.objs.size+1) R)
     { s with heap:=(s.heap.push PySem.W.emptyDict).push (PySem.W.instObj C s.heap.objs.size) }) :
   codeAny (model prog w) A (.call (.ref C) ⟨vs,kw⟩) R s:=by
 obtain ⟨hh,g,d,t,os⟩:=s
 exact PySem.W.make_core (PySem.W.makes_of X hm) (PySem.W.looks_findIn X hi) (fun self=>PySem.W.bind_fn X self hf) (.inl rfl) h
end
def qg2 (f:Str) (v:V):List (Str×V)→List (Str×V)
 | []=>[(f,v)]
 | (g,x)::r=>if g=f then (g,v)::r else (g,x)::qg2 f v r
theorem qfG (f g:Str) (v:V):∀fs:List (Str×V),(qg2 f v fs).lookup g=if g=f then some v else fs.lookup g
 | []=>by
   show List.lookup g [(f,v)]=_
   by_cases h:g=f
   · have hb:(g==f)=true:=beq_iff_eq.mpr h
     simp only [List.lookup,hb,if_pos h]
   · have hb:(g==f)=false:=beq_eq_false_iff_ne.mpr h
     simp only [List.lookup,hb,if_neg h]
 | (k,x)::r=>by
   have ih:=qfG f g v r
   rw [show qg2 f v ((k,x)::r)=(if k=f then (k,v)::r else (k,x)::qg2 f v r) from rfl]
   by_cases hk:k=f
   · rw [if_pos hk]
     by_cases h:g=k
     · have hb:(g==k)=true:=beq_iff_eq.mpr h
       simp only [List.lookup,hb,if_pos (h.trans hk)]
     · have hb:(g==k)=false:=beq_eq_false_iff_ne.mpr h
       simp only [List.lookup,hb,if_neg (fun e:g=f=>h (e.trans hk.symm))]
   · rw [if_neg hk]
     by_cases h:g=k
     · have hb:(g==k)=true:=beq_iff_eq.mpr h
       simp only [List.lookup,hb,if_neg (fun e:g=f=>hk (h.symm.trans e))]
     · have hb:(g==k)=false:=beq_eq_false_iff_ne.mpr h
       simp only [List.lookup,hb]
       exact ih
theorem qfY (f:Str) (v:V):∀fs:List (Str×V),f∈(qg2 f v fs).map (·.1)∧∀g,g∈fs.map (·.1)→g∈(qg2 f v fs).map (·.1)
 | []=>⟨by simp [qg2],fun g h=>by simp at h⟩
 | (k,x)::r=>by
   obtain ⟨i1,i2⟩:=qfY f v r
   rw [show qg2 f v ((k,x)::r)=(if k=f then (k,v)::r else (k,x)::qg2 f v r) from rfl]
   by_cases hk:k=f
   · rw [if_pos hk]
     subst hk
     exact ⟨by simp,fun g h=>by simpa using h⟩
   · rw [if_neg hk]
     refine ⟨?_,fun g h=>?_⟩
     · rw [List.map_cons]
       exact List.mem_cons_of_mem _ i1
     · rw [List.map_cons] at h ⊢
       rcases List.mem_cons.mp h with e | e
       · exact List.mem_cons.mpr (.inl e)
       · exact List.mem_cons_of_mem _ (i2 g e)
theorem qfv (f:Str) (v:V):∀fs:List (Str×V),(qg2 f v fs).length≤fs.length+1
 | []=>by simp [qg2]
 | (k,x)::r=>by
   have ih:=qfv f v r
   rw [show qg2 f v ((k,x)::r)=(if k=f then (k,v)::r else (k,x)::qg2 f v r) from rfl]
   by_cases hk:k=f
   · rw [if_pos hk,List.length_cons,List.length_cons];omega
   · rw [if_neg hk,List.length_cons,List.length_cons];omega
theorem qhN.some_of {v:V} {o:Option Value} (r:qhN (some v) o):∃u,o=some u∧qbE v u:=by
 cases o with
 | none=>exact (show False from r).elim
 | some u=>exact ⟨u,rfl,r⟩
theorem qhN.none_of {o:Option Value} (r:qhN none o):o=none:=by
 cases o with
 | none=>rfl
 | some u=>exact (show False from r).elim
theorem qlI {v:V} {u:Value} (r:qbE v u):PySem.W.handedIn u=true:=by
 cases v with
 | non=>cases (show u=Value.none from r);rfl
 | bl b=>cases (show u=Value.bool b from r);rfl
 | int i=>obtain ⟨t,e⟩:=(show ∃t,u=Value.int i t from r);cases e;rfl
 | str x=>obtain ⟨t,e⟩:=(show ∃t,u=Value.str x t from r);cases e;rfl
 | byt b=>obtain ⟨t,e⟩:=(show ∃t,u=Value.bytes b t from r);cases e;rfl
 | flt b=>obtain ⟨t,e⟩:=(show ∃t,u=Value.float b t from r);cases e;rfl
 | ref a=>cases (show u=Value.ref a from r);rfl
 | ty n=>cases (show u=Value.type n from r);rfl
section
variable {P:Program} {w:World} {H H':Hp} {h h':Heap} {a C dx:Addr} {fs fs':List (Str×V)}
theorem qhd (hok:HOk P w H h) (e:H a=some (.ins C dx fs)):∃mA,qon h a dx C mA∧(∀f,qhN (fs.lookup f) (mA f))∧PySem.Within mA (fs.map (·.1))∧fs.length≤1000∧H dx=some (.own a):=by
 obtain ⟨d,z,ne,ob,mA,n,r,q⟩:=(show qbU P w H h a (.ins C dx fs) from hok a _ e)
 exact ⟨mA,⟨ob,n,ne⟩,r,q,z,d⟩
end
structure Cls (K:PySem.W.Frag) (C:Addr):Prop where
 pg:PySem.W.plainGet K C Str.empty=true
 hd:PySem.W.hasDictIn K C=true
 po:PySem.W.plainOver K C=true
 sa:PySem.W.findIn K (.ref C) "__setattr__" = some (some (.builtin "object.__setattr__"))
theorem Cls.get {K:PySem.W.Frag} {C:Addr} (c:Cls K C) (f:Str):PySem.W.plainGet K C f=true:=c.pg
def qdJ (K:PySem.W.Frag) (C:Addr) (f:Str):Prop:=PySem.W.findIn K (.ref C) f=some none
theorem qdJ.taker {K:PySem.W.Frag} {C:Addr} {f:Str} (n:qdJ K C f):PySem.W.takerIn K C f=some none:=by
 unfold PySem.W.takerIn
 rw [show PySem.W.findIn K (.ref C) f=some none from n]
 rfl
structure Con (K:PySem.W.Frag) (C:Addr) (f:Str) (v:V) (u:Value):Prop where
 at_:PySem.W.findIn K (.ref C) f=some (some u)
 rel:qbE v u
 get:PySem.W.specialIn K u "__get__" = some none
 cp:PySem.W.copiedNames.contains f=false
structure qqw (K:PySem.W.Frag) (C:Addr) (m:Str) (f:Addr):Prop where
 at_:PySem.W.findIn K (.ref C) m=some (some (.ref f))
 fn:PySem.W.isFn K (.ref f)=true
 kp:PySem.W.keepIn K (.ref f)=true
section
variable {X:Cx} {pins:List (Addr×Obj)} {σ:St} {H:Hp} {s:Shared} {a C dx:Addr} {fs:List (Str×V)} {f:Str} {v:V} {A:Around} {E:Value→Shared→Prop}
theorem qkb {b:Bool} {Q:Value→Shared→Prop} (I:Inv X pins σ H s) (e:H a=some (.ins C dx fs)) (c:Cls X.K C) (n:qdJ X.K C f) (l:fs.lookup f=some v)
   (h:∀u s',Inv X pins σ H s'→qbE v u→Q u s'):wpAny (model X.prog X.w) A (getAttr (.ref a) f b) Q E s:=by
 obtain ⟨mA,O,r,_,_,_⟩:=qhd I.hok e
 obtain ⟨u,hu,ru⟩:=qhN.some_of (v:=v) (o:=mA f) (by rw [←l];exact r f)
 exact qpn I.kIn O (c.get f) c.hd n hu (qlI ru) (h u _ (I.tok _) ru)
theorem qgy {m:Str} {g:Addr} {pl:Sem Bool} {Q:Value×List Value→Shared→Prop} (I:Inv X pins σ H s) (e:H a=some (.ins C dx fs)) (c:Cls X.K C) (k:qqw X.K C m g) (l:fs.lookup m=none)
   (h:Q (.ref g,[.ref a]) s):wpAny (model X.prog X.w) A (getMethod (.ref a) m pl) Q E s:=by
 obtain ⟨mA,O,r,_,_,_⟩:=qhd I.hok e
 have hn:mA m=none:=qhN.none_of (by rw [←l];exact r m)
 exact qm7 I.kIn O (c.get m) k.at_ k.fn hn h
theorem qj8 {y:V} {u:Value} {Q:Unit→Shared→Prop} (I:Inv X pins σ H s) (e:H a=some (.ins C dx fs)) (c:Cls X.K C) (n:qdJ X.K C f) (hl:fs.length<1000) (ry:qbE y u)
   (h:∀s',Inv X pins σ (upd H a (.ins C dx (qg2 f y fs))) s'→Q () s'):wpAny (model X.prog X.w) A (setAttr (.ref a) f u) Q E s:=by
 obtain ⟨mA,O,r,wi,_,ho⟩:=qhd I.hok e
 have hz:(fs.map (·.1)).length≤sizeLine:=by rw [List.length_map,sizeLine_eq];omega
 refine qot I.kIn O c.sa c.po n.taker c.hd wi hz fun h' O' sb=>h _ ?_
 have hd:∃o,h'.get? dx=some o:=let ⟨o,_,_,e',_⟩:=O'.ns;⟨o,e'⟩
 refine I.write (x:=a) (e:=dx) (by rw [e];exact True.intro) (.inr ho) (fun b q hb z=>(sb.2 b hb).trans z) hd ?_
 refine ⟨by rw [qaz O.ne];exact ho,?_,O.ne,O'.obj,_,O'.ns,fun g=>?_,fun g hg=>?_⟩
 · have:=qfv f y fs;omega
 · show qhN ((qg2 f y fs).lookup g) (if g=f then some u else mA g)
   rw [qfG]
   by_cases q:g=f
   · rw [if_pos q,if_pos q];exact ry
   · rw [if_neg q,if_neg q];exact r g
 · by_cases q:g=f
   · rw [q];exact (qfY f y fs).1
   · refine (qfY f y fs).2 g (wi g fun z=>hg ?_)
     show (if g=f then some u else mA g)=none
     rw [if_neg q];exact z
theorem Inv.made (I:Inv X pins σ H s):Inv X pins σ (upd (upd H s.heap.objs.size (.own (s.heap.objs.size+1))) (s.heap.objs.size+1) (.ins C s.heap.objs.size []))
   { s with heap:=(s.heap.push PySem.W.emptyDict).push (PySem.W.instObj C s.heap.objs.size) }:=by
 have e1:(s.heap.push PySem.W.emptyDict).get? s.heap.objs.size=some PySem.W.emptyDict:=Heap.get?_push_size s.heap rfl
 have e2:((s.heap.push PySem.W.emptyDict).push (PySem.W.instObj C s.heap.objs.size)).get? (s.heap.objs.size+1)=some (PySem.W.instObj C s.heap.objs.size):=by
   have:=Heap.get?_push_size (s.heap.push PySem.W.emptyDict) (o:=PySem.W.instObj C s.heap.objs.size) rfl
   rwa [Heap.size_push] at this
 have e3:(s.heap.push PySem.W.emptyDict).Ns s.heap.objs.size (fun _=>none):=⟨PySem.W.emptyDict,#[],_,e1,rfl,(fun e he=>absurd he (by simp)),fun _=>rfl⟩
 have I1:=I.laid (a:=s.heap.objs.size) (o := .own (s.heap.objs.size+1)) (h':=s.heap.push PySem.W.emptyDict) (t':=s.toks) (fun b u q=>Heap.get?_push_of_some _ q) (Nat.le_refl _) ⟨_,e1⟩
 refine I1.laid (a:=s.heap.objs.size+1) (o := .ins C s.heap.objs.size []) (t':=s.toks) (fun b u q=>Heap.get?_push_of_some _ q) (Nat.le_of_eq (Heap.size_push _ _)) ?_
 have ne:s.heap.objs.size≠s.heap.objs.size+1:=Nat.ne_of_lt (Nat.lt_succ_self _)
 refine ⟨by rw [qaz ne,qai],Nat.zero_le _,ne,e2,fun _=>none,(Heap.Ns1.of_empty e3).at fun o q=>Heap.get?_push_of_some _ q,fun _=>True.intro,fun y hy=>absurd rfl hy⟩
theorem qpl {prog:Program} {w:World} {env:Env} {e:Expr} {f:Str} {pos:Pos} {s:Shared} {Q:Value→Shared→Prop} (hb:attributeBase e f env (eval e env)=eval e env)
   (h:wpAny (model prog w) A (eval e env) (fun o s₁=>wpAny (model prog w) A (getAttr o f true) Q E s₁) E s):wpAny (model prog w) A (eval (.Attribute e f pos) env) Q E s :=
 Attribute_any_ h (by rw [arm_eval_Attribute,hb])
end
def qsk (K:PySem.W.Frag) (ta:TE) (f:Str):TE:=fun σ H Q=>ta σ H fun x H1=>∃a C dx fs v,x = .ref a∧H1 a=some (.ins C dx fs)∧Cls K C∧qdJ K C f∧fs.lookup f=some v∧Q v H1
def qrH (K:PySem.W.Frag) (ta tv:TE) (f:Str):TS:=fun D σ H=>tv σ H fun y H1=>ta σ H1 fun x H2=>∃a C dx fs,x = .ref a∧H2 a=some (.ins C dx fs)∧Cls K C∧qdJ K C f∧fs.length<1000 ∧
 D.nx σ (upd H2 a (.ins C dx (qg2 f y fs)))
section
variable {X:Cx} {o e value:Expr} {f:Str} {pos pos' tpos:Pos} {ta tv:TE}
theorem qdv (he:PE X e ta) (hb:attributeBase e f X.env (eval e X.env)=eval e X.env):PE X (.Attribute e f pos) (qsk X.K ta f):=by
 intro pins s σ H Q I h
 refine qpl hb (thn (he pins s σ H _ I h) fun u s1 ⟨x,H1,I1,rx,a,C,dx,fs,v,ex,ea,c,n,l,q⟩=>?_)
 subst ex
 obtain rfl:u=Value.ref a:=rx
 exact qkb I1 ea c n l fun u' s2 I2 ru=>⟨v,H1,I2,ru,q⟩
theorem qnF (ha:PE X o ta) (hv:PE X value tv) (hs:swapsWith value (some (.Attribute o f pos')) pos.line X.env=pure false):PS X (.Assign [.Attribute o f pos'] value pos) (qrH X.K ta tv f):=by
 intro pins s σ H D I h
 refine plainObj_wpAny_Assign_Attribute (thn (hv pins s σ H _ I h) fun u s1 ⟨y,H1,I1,ry,q⟩=>thn (ha pins s1 σ H1 _ I1 q) fun ov s2 ⟨x,H2,I2,rx,a,C,dx,fs,ex,ea,c,n,l,q2⟩=>?_) hs
 subst ex
 obtain rfl:ov=Value.ref a:=rx
 exact qj8 I2 ea c n l ry fun s3 I3=>⟨σ,_,I3,q2⟩
theorem qoh {pl:Sem Bool} {m:Str} {apos:Pos} {args:List Expr} {pins:List (Addr×Obj)} {s:Shared} {σ:St} {H:Hp} {Q:Value→Shared→Prop} {te:TE} (he:PE X e te) (I:Inv X pins σ H s)
   (h:te σ H fun x H1=>∃a C dx fs g,x = .ref a∧H1 a=some (.ins C dx fs)∧Cls X.K C∧qqw X.K C m g∧fs.lookup m=none ∧
     ∀s1,Inv X pins σ H1 s1→wpAny (model X.prog X.w) X.A (callWith pos (.ref g) [.ref a] (backTo pos (starEach args X.env)) (backToKw pos (keywordEach [] X.env))) Q X.xe s1)
   (ht:eval (.Call (.Attribute e m apos) args [] pos) X.env=(do
     let ov ←eval e X.env
     standAt apos.atName
     let (f,first) ←holding [ov] (getMethod ov m pl)
     callWith pos f first (backTo pos (starEach args X.env)) (backToKw pos (keywordEach [] X.env)))) :
   wpAny (model X.prog X.w) X.A (eval (.Call (.Attribute e m apos) args [] pos) X.env) Q X.xe s:=by
 refine PySem.W.methodCall_KW (pl:=pl) (thn (he pins s σ H _ I h) fun u s1 ⟨x,H1,I1,rx,a,C,dx,fs,g,ex,ea,c,k,l,q⟩=>?_) ht
 subst ex
 obtain rfl:u=Value.ref a:=rx
 exact qgy I1 ea c k l (q s1 I1)
end
section
variable {X:Cx} {pins:List (Addr×Obj)} {σ:St} {H:Hp} {s:Shared} {A:Around} {E:Value→Shared→Prop} {Q:Value→Shared→Prop} {c:Value} {b:Bool}
inductive qjV (K:PySem.W.Frag) (H:Hp):V→Value→Prop where
 | non:qjV K H .non (.type "NoneType")
 | bl (x:Bool):qjV K H (.bl x) (.type "bool")
 | int (i:Int):qjV K H (.int i) (.type "int")
 | str (x:Str):qjV K H (.str x) (.type "str")
 | flt (x:UInt64):qjV K H (.flt x) (.type "float")
 | lst {a:Addr} {xs:List V} (e:H a=some (.lst xs)):qjV K H (.ref a) (.type "list")
 | frz {a:Addr} {o:Obj} {xs:List V} (e:H a=some (.frz o (.lst xs))):qjV K H (.ref a) (.type "list")
 | tup {a:Addr} {xs:List V} (e:H a=some (.tup xs)):qjV K H (.ref a) (.type "tuple")
 | dK {a:Addr} {kvs:List (Key×V)} (e:H a=some (.dK kvs)):qjV K H (.ref a) (.type "dict")
 | dT {a:Addr} {kvs:List (List Key×V)} (e:H a=some (.dT kvs)):qjV K H (.ref a) (.type "dict")
 | ins {a C dx:Addr} {fs:List (Str×V)} (e:H a=some (.ins C dx fs)) (cl:Cls K C) (ha:PySem.W.findIn K (.ref C) "__class__" = some (some (.builtin "object.__class__")))
     (hn:PySem.W.specialIn K (.builtin "object.__class__") "__get__" = some (some (.builtin "getset_descriptor.__get__"))) (htk:PySem.W.takesIn K (.builtin "object.__class__")=some true)
     (hm:PySem.W.mroIn K C (.type "object")=some true):qjV K H (.ref a) (.ref C)
theorem qlf {x:V} {u t:Value} (I:Inv X pins σ H s) (rx:qbE x u) (ty:qjV X.K H x t) (e:PySem.W.kitOne X.K t c=some b) (h:∀tk,Q (.bool b) { s with toks:=tk }) :
   wpAny (model X.prog X.w) A (call (.builtin "isinstance") [u,c]) Q E s:=by
 cases ty with
 | non=>cases (show u=Value.none from rx);exact PySem.W.kia_one PySem.W.kitx_none I.kIn True.intro e (fun z=>nomatch z) h
 | bl y=>cases (show u=Value.bool y from rx);exact PySem.W.kia_one PySem.W.kitx_bool I.kIn True.intro e (fun z=>nomatch z) h
 | int i=>obtain ⟨t,q⟩:=(show ∃t,u=Value.int i t from rx);cases q;exact PySem.W.kia_one PySem.W.kitx_int I.kIn True.intro e (fun z=>nomatch z) h
 | str y=>obtain ⟨t,q⟩:=(show ∃t,u=Value.str y t from rx);cases q;exact PySem.W.kia_one PySem.W.kitx_str I.kIn True.intro e (fun z=>nomatch z) h
 | flt y=>obtain ⟨t,q⟩:=(show ∃t,u=Value.float y t from rx);cases q;exact PySem.W.kia_one PySem.W.kitx_float I.kIn True.intro e (fun z=>nomatch z) h
 | @lst a xs ea =>
   cases (show u=Value.ref a from rx)
   obtain ⟨_,_,n,_,h1⟩:=(show qbU X.prog X.w H s.heap a (.lst xs) from I.hok a _ ea)
   exact PySem.W.kia_one PySem.W.kitx_list I.kIn ⟨_,h1,rfl⟩ e (fun z=>nomatch z) h
 | @frz a ob xs ea =>
   cases (show u=Value.ref a from rx)
   obtain ⟨_,_,_,n,_,h1⟩:=(show qbU X.prog X.w H s.heap a (.frz ob (.lst xs)) from I.hok a _ ea)
   exact PySem.W.kia_one PySem.W.kitx_list I.kIn ⟨_,h1,rfl⟩ e (fun z=>nomatch z) h
 | @tup a xs ea =>
   cases (show u=Value.ref a from rx)
   obtain ⟨_,_,_,p⟩:=(show qbU X.prog X.w H s.heap a (.tup xs) from I.hok a _ ea)
   obtain ⟨o,h1,h2,_⟩:=p
   exact PySem.W.kia_one PySem.W.kitx_tuple I.kIn ⟨o,h1,h2⟩ e (fun z=>nomatch z) h
 | @dK a kvs ea =>
   cases (show u=Value.ref a from rx)
   obtain ⟨_,_,vs,_,p⟩:=(show qbU X.prog X.w H s.heap a (.dK kvs) from I.hok a _ ea)
   obtain ⟨o,es,ep,h1,h2,_⟩:=p
   exact PySem.W.kia_one PySem.W.kitx_dict I.kIn ⟨o,h1,h2.1⟩ e (fun z=>nomatch z) h
 | @dT a kvs ea =>
   cases (show u=Value.ref a from rx)
   obtain ⟨_,_,xs,_,o,es,ep,h1,h2,_⟩:=(show qbU X.prog X.w H s.heap a (.dT kvs) from I.hok a _ ea)
   exact PySem.W.kia_one PySem.W.kitx_dict I.kIn ⟨o,h1,h2.1⟩ e (fun z=>nomatch z) h
 | @ins a C dx fs ea cl ha hn htk hm =>
   cases (show u=Value.ref a from rx)
   obtain ⟨mA,O,_⟩:=qhd I.hok ea
   obtain ⟨od,J,_⟩:=O.look
   exact PySem.W.kia_one (PySem.W.kitx_own (cl.get _) cl.hd ha hn htk hm) I.kIn J e (fun z=>nomatch z) h
end
end L2
namespace L2
open PySem PySem.Spec PyProof.Rows
structure qd3 (k:Nat) (A:Around):Prop where
 hd:A.handled=none
 dp:A.depth+3*k+5<recursionLimit
 un:A.units+16*k+200<cLine
theorem qd3.mono {j k:Nat} {A:Around} (r:qd3 k A) (h:j≤k):qd3 j A:=⟨r.hd,by have:=r.dp;omega,by have:=r.un;omega⟩
theorem qd3.deeper {k:Nat} {A:Around} (r:qd3 (k+1) A) (env:Env):qd3 k (A.deeper env) :=
 ⟨r.hd,by have:=r.dp;show A.depth+1+3*k+5<_;omega,by have:=r.un;show A.units+3+16*k+200<_;omega⟩
theorem qjF {A:Around} {C:Addr} {us:List Value} {kw:List (Str×Value)}:(A.under (.builtin "type.__call__" ⟨.ref C::us,kw⟩)).depth=A.depth+1:=by
 first | rfl | simp [Around.under,Code.weight,Code.isCreation,Code.isGuard,Code.isCaller,Code.frames,Code.isFrame,guardIds]
theorem qj2 {A:Around} {C:Addr} {us:List Value} {kw:List (Str×Value)}:(A.under (.builtin "type.__call__" ⟨.ref C::us,kw⟩)).units=A.units+1:=by
 first | rfl | simp [Around.under,Code.cUnits,Code.frames,Code.isFrame]
theorem qd3.make {k:Nat} {A:Around} (r:qd3 (k+1) A) (C:Addr) (us:List Value) (kw:List (Str×Value)):qd3 k (A.under (.builtin "type.__call__" ⟨.ref C::us,kw⟩)) :=
 ⟨r.hd,by have:=r.dp;rw [qjF];omega,by have:=r.un;rw [qj2];omega⟩
theorem qd3.depth {k:Nat} {A:Around} (r:qd3 k A):A.depth<recursionLimit:=by have:=r.dp;omega
theorem qd3.units {k:Nat} {A:Around} (r:qd3 k A):A.units+64<cLine:=by have:=r.un;omega
theorem qd3.units0 {k:Nat} {A:Around} (r:qd3 k A):A.units<cLine:=by have:=r.un;omega
def qrL:TA:=fun _ H Q=>Q [] H
def qjW (ta:TE) (tr:TA):TA:=fun σ H Q=>ta σ H fun x H1=>tr σ H1 fun xs H2=>Q (x::xs) H2
section
variable {X:Cx} {e:Expr} {es:List Expr} {te:TE} {t:TA} {pos:Pos}
theorem qac:PA X [] qrL:=fun _ _ _ _ H Q I h=>Calls.spliced_nil ⟨[],H,I,.nil,h⟩
theorem qaa (ha:PE X e te) (hr:PA X es t) (hs:starEach (e::es) X.env=(false,eval e X.env)::starEach es X.env:=by rfl):PA X (e::es) (qjW te t):=by
 intro pos pins s σ H Q I h
 rw [hs]
 show wpAny _ _ (spliced ((false,eval e X.env)::backTo pos (starEach es X.env))) _ _ s
 refine Calls.spliced_cons (thn (ha pins s σ H _ I h) fun u s1 ⟨x,H1,I1,r1,q1⟩=>?_)
 exact thn (hr pos pins s1 σ H1 _ I1 q1) fun us s2 ⟨xs,H2,I2,r2,q2⟩=>⟨x::xs,H2,I2,.cons r1 r2,q2⟩
def qsa (t:TA):TE:=fun σ H Q=>t σ H fun xs H1=>xs.length≤sizeLine∧∀p,H1 p=none→Q (.ref p) (upd H1 p (.tup xs))
def qsl (t:TA):TE:=fun σ H Q=>t σ H fun xs H1=>xs.length≤sizeLine∧∀p,H1 p=none→Q (.ref p) (upd H1 p (.lst xs))
theorem qct {x1} (h:PA X es t):PE X (.Tuple es x1 pos) (qsa t):=by
 intro pins s σ H Q I hq
 refine wpAny_Tuple_spliced (thn (h pos pins s σ H _ I hq) fun us s1 ⟨xs,H1,I1,r,z,q⟩=>⟨by rw [←r.length];exact z,?_⟩)
 have hf:H1 s1.heap.objs.size=none:=I1.hok.fresh (Nat.le_refl _)
 refine ⟨.ref s1.heap.objs.size,upd H1 s1.heap.objs.size (.tup xs),I1.laid (t':=s1.toks) (fun b u e=>Heap.get?_push_of_some _ e) (Nat.le_refl _) ?_,rfl,q _ hf⟩
 exact ⟨z,us,r,⟨_,Heap.get?_push_size _ rfl,rfl,_,rfl⟩⟩
theorem qa7 (h:PA X es t):PE X (.List es pos) (qsl t):=by
 intro pins s σ H Q I hq
 refine wpAny_List_spliced (thn (h pos pins s σ H _ I hq) fun us s1 ⟨xs,H1,I1,r,z,q⟩=>⟨by rw [←r.length];exact z,?_⟩)
 have hf:H1 s1.heap.objs.size=none:=I1.hok.fresh (Nat.le_refl _)
 refine ⟨.ref s1.heap.objs.size,upd H1 s1.heap.objs.size (.lst xs),I1.laid (t':=s1.toks) (fun b u e=>Heap.get?_push_of_some _ e) (Nat.le_refl _) ?_,rfl,q _ hf⟩
 exact ⟨z,us,0,r,Heap.get?_push_size _ rfl⟩
end
abbrev Sp:=List V→Hp→VK→XK→Prop
abbrev CXT:=List Env→Hp→Shared→XK→Value→Shared→Prop
structure qn1 (P:Program) (w:World) (K:PySem.W.Frag) (mg:Str→Option Value) (base:Heap) (A:Around) (outer:List Env) (s:Shared) (H:Hp):Prop where
 frames:A.frames=some outer
 mod:Mod K mg base
 bs:∀b o,base.get? b=some o→s.heap.get? b=some o∧H b=none
 bsz:base.objs.size≤s.heap.objs.size
 funs:s.heap.FunFrames base outer
 frf:∀b∈frs outer,H b=none
 hok:HOk P w H s.heap
 bare:AllBare s.gens
def CE (outer:List Env) (P:Program) (w:World) (H:Hp) (s:Shared) (Q:VK) (u:Value) (s':Shared):Prop :=
 ∃v H',s'.os=s.os∧AllBare s'.gens∧Un (frs outer) [] H H' s.heap s'.heap∧HOk P w H' s'.heap∧qbE v u∧Q v H'
def CR (CX:CXT) (outer:List Env) (P:Program) (w:World) (H:Hp) (s:Shared) (Q:VK) (E:XK) (r:Result) (s':Shared):Prop :=
 match r with
 | .ok (.ret u)=>CE outer P w H s Q u s'
 | .ok _=>False
 | .error e=>CX outer H s E e s'
structure qaZ (P:Program) (w:World) (K:PySem.W.Frag) (mg:Str→Option Value) (base:Heap) (CX:CXT) (k:Nat) (f:Addr) (fd:FuncData) (ps:List Str) (sp:Sp):Prop where
 len:∀vs H Q E,sp vs H Q E→vs.length=ps.length
 run:∀(A:Around) (outer:List Env) (s:Shared) (H:Hp) (args:Args) (us:List Value) (vs:List V) (Q:VK) (E:XK),qd3 k A→qn1 P w K mg base A outer s H→BindsTo s fd args (ps.zip us)→qbd vs us→sp vs H Q E →
   codeAny (model P w) A (.call (.ref f) args) (CR CX outer P w H s Q E) s
theorem qn1.make {P:Program} {w:World} {K:PySem.W.Frag} {mg:Str→Option Value} {base:Heap} {A:Around} {outer:List Env} {s:Shared} {H:Hp} (e:qn1 P w K mg base A outer s H) (C:Addr) (us:List Value) (kw:List (Str×Value)) :
 qn1 P w K mg base (A.under (.builtin "type.__call__" ⟨.ref C::us,kw⟩)) outer s H:=⟨by first | exact e.frames | (simpa [Around.under,Code.envs,Code.isFrame,pushEnvs] using e.frames),e.mod,e.bs,e.bsz,e.funs,e.frf,e.hok,e.bare⟩
section
variable {X:Cx} {pins:List (Addr×Obj)} {σ:St} {H:Hp} {s s':Shared}
theorem Inv.env0 (I:Inv X pins σ H s):qn1 X.prog X.w X.K X.mg X.base X.A X.stack s H :=
 ⟨I.ok.frames,I.ok.mod,I.bs,Nat.le_trans I.ok.bsz I.sz,I.stack,I.stkFree,I.hok,I.bare⟩
theorem Inv.after {Q:VK} {u:Value} (I:Inv X pins σ H s) (h:CE X.stack X.prog X.w H s Q u s'):EP X pins σ Q u s':=by
 obtain ⟨v,H',os,bare,un,hok,r,q⟩:=h
 obtain ⟨hh,g,d,t,os'⟩:=s'
 obtain rfl:os'=s.os:=os
 exact ⟨v,H',I.call (h':=hh) (g':=g) (d':=d) (t':=t) (ch:=[]) un hok bare (fun b z=>absurd z (by simp)),r,q⟩
end
def qoK (sp:Sp) (dvs:List V) (E:XK) (t:TA):TE:=fun σ H Q=>t σ H fun vs H1=>sp (vs++dvs) H1 Q E
def qok (C:Addr) (m:Str) (sp:Sp) (dvs:List V) (E:XK) (ta:TE) (t:TA):TE:=fun σ H Q=>ta σ H fun x H1=>∃a dx fs,x = .ref a∧H1 a=some (.ins C dx fs)∧fs.lookup m=none ∧
 t σ H1 fun vs H2=>sp (x::(vs++dvs)) H2 Q E
def qo3 (C:Addr) (sp:Sp) (dvs:List V) (E:XK) (t:TA):TE:=fun σ H Q=>t σ H fun vs H1=>∀x dx,H1 x=none→H1 dx=none→dx≠x →
 sp (.ref x::(vs++dvs)) (upd (upd H1 dx (.own x)) x (.ins C dx [])) (fun v H2=>v = .non∧Q (.ref x) H2) E
def qdP (K:PySem.W.Frag) (fd:FuncData) (ps:List Str) (ds:List Value):Prop :=
 ∀(s:Shared) (us:List Value),K.In s.heap→(us++ds).length=ps.length→BindsTo s fd ⟨us,[]⟩ (ps.zip (us++ds))
theorem qdP.all {K:PySem.W.Frag} {fd:FuncData} {ps:List Str} (h:∀us:List Value,us.length=ps.length→bindArgs fd ⟨us,[]⟩=pure (ps.zip us)):qdP K fd ps []:=fun s us _ hl=>by
 rw [List.append_nil] at hl ⊢
 exact .of_eq (h us hl)
def qgn (CX:CXT) (X:Cx) (E:XK):Prop:=∀(pins:List (Addr×Obj)) (σ:St) (H:Hp) (s:Shared) (e:Value) (s':Shared),Inv X pins σ H s→CX X.stack H s E e s'→X.xe e s'
section
variable {X:Cx} {CX:CXT} {k:Nat} {f C:Addr} {fd:FuncData} {ps:List Str} {sp:Sp} {dvs:List V} {ds:List Value} {E:XK} {x m:Str} {p pos apos:Pos} {e o:Expr} {es:List Expr} {ta:TE} {t:TA}
theorem qnK {pins:List (Addr×Obj)} {σ:St} {H:Hp} {s:Shared} {Q:VK} {us:List Value} {vs:List V} (F:qaZ X.prog X.w X.K X.mg X.base CX k f fd ps sp) (hr:qd3 k X.A) (hb:qdP X.K fd ps ds) (hd:qbd dvs ds) (hx:qgn CX X E)
   (I:Inv X pins σ H s) (r:qbd vs us) (h:sp (vs++dvs) H Q E):wpAny (model X.prog X.w) X.A (call (.ref f) us) (EP X pins σ Q) X.xe s:=by
 have r2:qbd (vs++dvs) (us++ds):=r.append hd
 have hl:(us++ds).length=ps.length:=by rw [←r2.length];exact F.len _ _ _ _ h
 refine wpAny_call (codeAny_mono (F.run X.A X.stack s H ⟨us,[]⟩ (us++ds) (vs++dvs) Q E hr I.env0 (hb s us I.kIn hl) r2 h) fun r s' hq=>?_)
 cases r with
 | error e=>exact hx pins σ H s e s' I hq
 | ok fl =>
   cases fl with
   | ret u=>exact I.after hq
   | next=>exact False.elim hq
   | brk=>exact False.elim hq
   | cont=>exact False.elim hq
theorem qpr (F:qaZ X.prog X.w X.K X.mg X.base CX k f fd ps sp) (hr:qd3 k X.A) (hg:Gl X x) (hm:X.mg x=some (.ref f)) (hk:PySem.W.keepIn X.K (.ref f)=true) (hb:qdP X.K fd ps ds) (hd:qbd dvs ds) (hx:qgn CX X E)
   (ha:PA X (e::es) t) (hdb:(x==("__debug__" : Str))=false:=by decide) (he:starEach (e::es) X.env=(false,eval e X.env)::starEach es X.env:=by rfl) (hpl:(backTo pos (starEach es X.env)).any (·.1)=false:=by rfl) :
   PE X (.Call (.Name x p) (e::es) [] pos) (qoK sp dvs E t):=by
 intro pins s σ H Q I h
 refine wpAny_Call_Name_kw (qiR I hg hm ?_ hdb)
 refine PySem.W.callWith_K (h₀:=X.base) I.ok.mod.kin hk (thn (ha pos pins s σ H _ I h) fun us s1 ⟨vs,H1,I1,r,q⟩=>⟨I1.kIn,?_⟩) he hpl
 exact qnK F hr hb hd hx I1 r q
theorem qpj {pl:Sem Bool} (he:PE X o ta) (c:Cls X.K C) (hm:qqw X.K C m f) (F:qaZ X.prog X.w X.K X.mg X.base CX k f fd ps sp) (hr:qd3 k X.A) (hb:qdP X.K fd ps ds) (hd:qbd dvs ds) (hx:qgn CX X E) (ha:PA X (e::es) t)
   (hst:starEach (e::es) X.env=(false,eval e X.env)::starEach es X.env:=by rfl) (hpl:(backTo pos (starEach es X.env)).any (·.1)=false:=by rfl)
   (ht:eval (.Call (.Attribute o m apos) (e::es) [] pos) X.env=(do
     let ov ←eval o X.env
     standAt apos.atName
     let (f,first) ←holding [ov] (getMethod ov m pl)
     callWith pos f first (backTo pos (starEach (e::es) X.env)) (backToKw pos (keywordEach [] X.env))):=by rfl) :
   PE X (.Call (.Attribute o m apos) (e::es) [] pos) (qok C m sp dvs E ta t):=by
 intro pins s σ H Q I h
 refine PySem.W.methodCall_KW (pl:=pl) (thn (he pins s σ H _ I h) fun u s1 ⟨x,H1,I1,rx,a,dx,fs,ex,ea,l,q⟩=>?_) ht
 subst ex
 obtain rfl:u=Value.ref a:=rx
 refine qgy I1 ea c hm l ?_
 refine PySem.W.callWith_K (first:=[.ref a]) (h₀:=X.base) I.ok.mod.kin hm.kp (thn (ha pos pins s1 σ H1 _ I1 q) fun us s2 ⟨vs,H2,I2,r,q2⟩=>⟨I2.kIn,?_⟩) hst hpl
 exact qnK (us := .ref a::us) (vs := .ref a::vs) F hr hb hd hx I2 (.cons rfl r) q2
structure Mk (K:PySem.W.Frag) (C f:Addr):Prop where
 makes:PySem.W.makesIn K C=true
 init:PySem.W.findIn K (.ref C) "__init__" = some (some (.ref f))
 fn:PySem.W.isFn K (.ref f)=true
 kp:PySem.W.keepIn K (.ref C)=true
theorem qmy {pins:List (Addr×Obj)} {σ:St} {H:Hp} {s:Shared} {Q:VK} {us:List Value} {vs:List V} (M:Mk X.K C f) (F:qaZ X.prog X.w X.K X.mg X.base CX k f fd ps sp) (hr:qd3 (k+1) X.A) (hb:qdP X.K fd ps ds) (hd:qbd dvs ds)
   (hx:qgn CX X E) (I:Inv X pins σ H s) (r:qbd vs us)
   (h:∀x dx,H x=none→H dx=none→dx≠x→sp (.ref x::(vs++dvs)) (upd (upd H dx (.own x)) x (.ins C dx [])) (fun v H2=>v = .non∧Q (.ref x) H2) E) :
   wpAny (model X.prog X.w) X.A (call (.ref C) us) (EP X pins σ Q) X.xe s:=by
 have hq:=h (s.heap.objs.size+1) s.heap.objs.size (I.hok.fresh (Nat.le_succ _)) (I.hok.fresh (Nat.le_refl _)) (Nat.ne_of_lt (Nat.lt_succ_self _))
 have I2:=Inv.made (C:=C) I
 have r2:qbd (V.ref (s.heap.objs.size+1)::(vs++dvs)) (Value.ref (s.heap.objs.size+1)::(us++ds)) := .cons rfl (r.append hd)
 have hl:(Value.ref (s.heap.objs.size+1)::us++ds).length=ps.length:=by
   have e:=r2.length
   rw [F.len _ _ _ _ hq] at e
   exact e.symm
 refine wpAny_call (qnf (f:=f) I.kIn M.makes M.init (beq_iff_eq.mp M.fn) (codeAny_mono (F.run _ X.stack _ _ ⟨Value.ref (s.heap.objs.size+1)::us,[]⟩ (Value.ref (s.heap.objs.size+1)::(us++ds)) _ _ E (hr.make C us [])
   (I2.env0.make C us []) (hb _ (Value.ref (s.heap.objs.size+1)::us) I2.kIn hl) r2 hq) fun r s' hq'=>?_))
 cases r with
 | error e=>exact hx pins σ _ _ e s' I2 hq'
 | ok fl =>
   cases fl with
   | ret u =>
     obtain ⟨v,H',I3,rv,ev,q3⟩:=I2.after hq'
     subst ev
     exact ⟨rv,⟨V.ref (s.heap.objs.size+1),H',I3,rfl,q3⟩⟩
   | next=>exact False.elim hq'
   | brk=>exact False.elim hq'
   | cont=>exact False.elim hq'
theorem qpg (M:Mk X.K C f) (F:qaZ X.prog X.w X.K X.mg X.base CX k f fd ps sp) (hr:qd3 (k+1) X.A) (hg:Gl X x) (hm:X.mg x=some (.ref C)) (hb:qdP X.K fd ps ds) (hd:qbd dvs ds) (hx:qgn CX X E)
   (ha:PA X (e::es) t) (hdb:(x==("__debug__" : Str))=false:=by decide) (he:starEach (e::es) X.env=(false,eval e X.env)::starEach es X.env:=by rfl) (hpl:(backTo pos (starEach es X.env)).any (·.1)=false:=by rfl) :
   PE X (.Call (.Name x p) (e::es) [] pos) (qo3 C sp dvs E t):=by
 intro pins s σ H Q I h
 refine wpAny_Call_Name_kw (qiR I hg hm ?_ hdb)
 refine PySem.W.callWith_K (h₀:=X.base) I.ok.mod.kin M.kp (thn (ha pos pins s σ H _ I h) fun us s1 ⟨vs,H1,I1,r,q⟩=>⟨I1.kIn,?_⟩) he hpl
 exact qmy M F hr hb hd hx I1 r q
end
section
variable {X:Cx} {CX:CXT} {k:Nat} {f C:Addr} {fd:FuncData} {ps ks:List Str} {sp:Sp} {E:XK} {x m:Str} {p pos apos kpos:Pos} {e o:Expr} {es:List Expr} {kws:List Keyword} {te ta:TE} {t tk:TA} {nm:Option Str}
structure qsm (K:PySem.W.Frag) (fd:FuncData) (ps ks:List Str) (g:List Value→List Value→List Value) (gV:List V→List V→List V):Prop where
 to:∀(s:Shared) (us ws:List Value),K.In s.heap→(g us ws).length=ps.length→BindsTo s fd ⟨us,ks.zip ws⟩ (ps.zip (g us ws))
 rel:∀{vs:List V} {us:List Value} {zs:List V} {ws:List Value},qbd vs us→qbd zs ws→qbd (gV vs zs) (g us ws)
variable {g:List Value→List Value→List Value} {gV:List V→List V→List V}
end
structure qan (N P:List Str) (sc:Scope):Prop where
 kind:sc.kind = .function
 co:sc.isCoroutine=false
 gen:sc.isGenerator=false
 nd:N.Nodup
 pre:N.take P.length=P
 par:∀x∈P,sc.names.lookup x=some .local∨sc.names.lookup x=some .cell
 nofree:∀y∈sc.names,y.2 ≠ .free
theorem qhT {kindOf:Str→Option NameKind} {x:Str}:∀{binds:List (Str×Value)} {m:Str→Option Value},(∀v,(x,v)∉binds)→bindL kindOf binds m x=m x
 | [],_,_=>rfl
 | (n,v)::r,m,h=>by
   unfold bindL
   rw [qhT fun w hw=>h w (List.mem_cons_of_mem _ hw)]
   split
   · have:x≠n:=by rintro rfl;exact h v List.mem_cons_self
     simp [this]
   · rfl
theorem qh4 {kindOf:Str→Option NameKind} {x:Str}:∀{binds:List (Str×Value)} {m:Str→Option Value},(∀v,(x,v)∉binds)→bindC kindOf binds m x=m x
 | [],_,_=>rfl
 | (n,v)::r,m,h=>by
   unfold bindC
   rw [qh4 fun w hw=>h w (List.mem_cons_of_mem _ hw)]
   split
   · rfl
   · have:x≠n:=by rintro rfl;exact h v List.mem_cons_self
     simp [this]
theorem qh1 {kindOf:Str→Option NameKind} {x:Str} {v:Value}:∀{P:List Str} {vs:List Value} {i:Nat} {m:Str→Option Value},P.Nodup→P[i]?=some x→vs[i]?=some v→kindOf x=some .local →
   bindL kindOf (P.zip vs) m x=some v
 | [],_,_,_,_,h,_,_=>by simp at h
 | _::_,[],_,_,_,_,h,_=>by simp at h
 | p::P,w::vs,0,m,nd,h1,h2,hk=>by
   simp at h1 h2;subst h1;subst h2
   show bindL kindOf ((p,w)::P.zip vs) m p=_
   unfold bindL
   rw [qhT fun v hv=>(List.nodup_cons.mp nd).1 (List.of_mem_zip hv).1,if_pos hk]
   simp
 | p::P,w::vs,i+1,m,nd,h1,h2,hk=>by
   show bindL kindOf ((p,w)::P.zip vs) m x=_
   unfold bindL
   exact qh1 (i:=i) (List.nodup_cons.mp nd).2 (by simpa using h1) (by simpa using h2) hk
theorem qhy {kindOf:Str→Option NameKind} {x:Str} {v:Value}:∀{P:List Str} {vs:List Value} {i:Nat} {m:Str→Option Value},P.Nodup→P[i]?=some x→vs[i]?=some v→kindOf x≠some .local →
   bindC kindOf (P.zip vs) m x=some v
 | [],_,_,_,_,h,_,_=>by simp at h
 | _::_,[],_,_,_,_,h,_=>by simp at h
 | p::P,w::vs,0,m,nd,h1,h2,hk=>by
   simp at h1 h2;subst h1;subst h2
   show bindC kindOf ((p,w)::P.zip vs) m p=_
   unfold bindC
   rw [qh4 fun v hv=>(List.nodup_cons.mp nd).1 (List.of_mem_zip hv).1,if_neg hk]
   simp
 | p::P,w::vs,i+1,m,nd,h1,h2,hk=>by
   show bindC kindOf ((p,w)::P.zip vs) m x=_
   unfold bindC
   exact qhy (i:=i) (List.nodup_cons.mp nd).2 (by simpa using h1) (by simpa using h2) hk
def qh3 (N:List Str) (vs:List V):St:=vs.map some++List.replicate (N.length-vs.length) none
def qo0 (CX:CXT) (P:Program) (w:World) (K:PySem.W.Frag) (mg:Str→Option Value) (base:Heap) (N:List Str) (qual:Str) (scope:Scope) (f:Addr) (cd:Value) (A:Around) (outer:List Env) (s:Shared) (H:Hp) (E:XK):Cx where
 prog:=P
 w:=w
 K:=K
 mg:=mg
 base:=base
 A:=A.deeper (envOfC qual scope s.heap.objs.size f cd)
 N:=N
 s₀:=s
 H₀:=H
 env:=envOfC qual scope s.heap.objs.size f cd
 outer:=outer
 stack:=envOfC qual scope s.heap.objs.size f cd::outer
 ex:=[]
 calm:=true
 fn:=fun _=>true
 pn:=[]
 xe:=fun e s'=>wpAny (model P w) (A.deeper (envOfC qual scope s.heap.objs.size f cd)) (leaving (envOfC qual scope s.heap.objs.size f cd) e) (fun _ s''=>CX outer H s E e s'') (fun e' s''=>CX outer H s E e' s'') s'
theorem qjw {sc:Scope} {n:Nat} {x:Str} (h:sc.names.lookup x=some .cell):∃c,(cellsFrom n sc.names []).lookup x=some c:=by
 have q:=PySem.W.cellsFrom_some sc.names n [] (.inl h)
 exact Option.isSome_iff_exists.mp q
theorem qkh {CX:CXT} {P:Program} {w:World} {K:PySem.W.Frag} {mg:Str→Option Value} {base:Heap} {N ps:List Str} {qual:Str} {scope:Scope} {f:Addr} {cd:Value} {A:Around} {outer:List Env} {s s1:Shared} {H:Hp} {E:XK} {us:List Value} {vs:List V}
   (S:qan N ps scope) (hd:A.handled=none) (e0:qn1 P w K mg base A outer s H) (hl:vs.length=ps.length) (r:qbd vs us)
   (x:InCallC s s.heap.objs.size (bindL (envOfC qual scope s.heap.objs.size f cd).kindOf (ps.zip us) fun _=>none) (cellsFrom (s.heap.objs.size+1) scope.names []) (bindC (envOfC qual scope s.heap.objs.size f cd).kindOf (ps.zip us) fun _=>none) s1) :
   Inv (qo0 CX P w K mg base N qual scope f cd A outer s H E) [] (qh3 N vs) H s1:=by
 have hpl:ps.length≤N.length:=by have:=congrArg List.length S.pre;rw [List.length_take] at this;omega
 obtain ⟨h1,tk,rfl,hk⟩:=x.done
 have noA:∀b:Addr,b∉(qo0 CX P w K mg base N qual scope f cd A outer s H E).ex:=fun b z=>absurd (show b∈([]:List Addr) from z) (by simp)
 refine ⟨⟨e0.mod,S.kind,rfl,rfl,Nat.le_refl _,fun y z c h1 h2=>?_,fun y hy=>?_,fun y c _ h=>?_,fun _=>hd,Around.frames_deeper e0.frames,.inr ⟨rfl,rfl⟩,fun b z=>absurd z (noA b),e0.bs,e0.bsz,fun b _ _=>noA b,fun b z=>absurd z (noA b),e0.funs,e0.frf⟩,
   rfl,e0.bare,Un.kept hk,⟨_,x.toInCall.ns,fun i y v h1 h2 h3=>?_⟩,fun y c h=>⟨_,x.cell y c h⟩,e0.hok.fresh (Nat.le_refl _),fun y c h=>?_,fun p hp=>absurd (show p∈([]:List (Addr×Obj)) from hp) (by simp),e0.hok.kept hk,?_⟩
 · exact name_of_addr x.apart (PySem.mem_of_lookup h1) (PySem.mem_of_lookup h2)
 · have hy:scope.names.lookup y=some .cell∨scope.names.lookup y=some .free:=hy
   rcases hy with hy | hy
   · exact qjw hy
   · exact absurd rfl (S.nofree _ (PySem.mem_of_lookup hy))
 · exact Nat.le_of_lt (x.above y c (PySem.mem_of_lookup h))
 · have hi:i<vs.length:=by
     unfold qh3 at h2
     by_cases hi:i<vs.length
     · exact hi
     · rw [List.getElem?_append_right (by simpa using hi)] at h2
       rw [List.getElem?_replicate] at h2
       split at h2<;>cases h2
   have ha:vs[i]?=some v:=by
     unfold qh3 at h2
     rw [List.getElem?_append_left (by simpa using hi),List.getElem?_map] at h2
     cases e:vs[i]? with
     | none=>rw [e] at h2;cases h2
     | some a=>rw [e] at h2;cases h2;rfl
   obtain ⟨u,hu,rv⟩:=r.get ha
   have hp:ps[i]?=some y:=by
     rw [←S.pre,List.getElem?_take_of_lt (by omega)];exact h1
   have ndP:ps.Nodup:=by rw [←S.pre];exact S.nd.sublist (List.take_sublist _ _)
   refine ⟨u,rv,?_⟩
   rcases S.par y (List.mem_of_getElem? hp) with k | k
   · exact .inl ⟨k,qh1 ndP hp hu k⟩
   · obtain ⟨c,e⟩:=qjw (n:=s.heap.objs.size+1) k
     refine .inr ⟨.inl k,c,e,?_⟩
     have q:=x.cell y c e
     rw [qhy ndP hp hu (by show scope.names.lookup y≠_;rw [k];decide)] at q
     exact q
 · exact e0.hok.fresh (Nat.le_of_lt (x.above y c (PySem.mem_of_lookup h)))
 · unfold qh3
   show _=N.length
   rw [List.length_append,List.length_map,List.length_replicate]
   omega
theorem qrJ {CX:CXT} {P:Program} {w:World} {K:PySem.W.Frag} {mg:Str→Option Value} {base:Heap} {k:Nat} {f:Addr} {name qual:Str} {params:Arguments} {body:List Stmt} {scope:Scope} {dV kV doc pm cdv ct oc:Value} {an od:Option Addr}
   {osl:Array (Option Value)} {N ps:List Str} {sp:Sp} (lk:K.lookup f=some ⟨oc,od,.func (PySem.W.fnOf name qual params body scope dV kV doc pm an cdv ct),osl⟩) (hcd:PySem.W.codeIn K cdv qual=true) (S:qan N ps scope)
   (len:∀vs H Q E,sp vs H Q E→vs.length=ps.length)
   (hbody:∀(A:Around) (outer:List Env) (s:Shared) (H:Hp) (vs:List V) (Q:VK) (E:XK),qd3 k (A.deeper (envOfC qual scope s.heap.objs.size f cdv))→sp vs H Q E →
     ∃t,PSs (qo0 CX P w K mg base N qual scope f cdv A outer s H E) body t∧t { nx:=fun _ H'=>Q .non H',rt:=Q } (qh3 N vs) H) :
   qaZ P w K mg base CX (k+1) f (PySem.W.fnOf name qual params body scope dV kV doc pm an cdv ct) ps sp:=by
 refine ⟨len,fun A outer s H args us vs Q E hr e0 hb r hsp=>?_⟩
 have hl:=len _ _ _ _ hsp
 have KX:K.In s.heap:=e0.mod.kin.keeps fun b o e=>(e0.bs b o e).1
 have lim:s.heap.NoLimit:=e0.mod.nolimit.keeps fun b o e=>(e0.bs b o e).1
 have hkind:∀y∈ps.zip us,scope.names.lookup y.1=some .local∨(scope.names.lookup y.1=some .cell∧((cellsFrom (s.heap.objs.size+1) scope.names []).lookup y.1).isSome=true):=fun ⟨n,v⟩ hy=>by
   rcases S.par n (List.of_mem_zip hy).1 with q | q
   · exact .inl q
   · exact .inr ⟨q,PySem.W.cellsFrom_some _ _ _ (.inl q)⟩
 refine codeAny_call_function hr.depth (KX _ _ lk) rfl S.co S.gen rfl (PySem.W.codeRec_of KX hcd) (hb _ _ _ _ ?_)
 refine wpAny_newFunctionEnv_cells S.kind hkind fun env he s1 x=>?_
 subst he
 refine ⟨lim.keeps x.toInCall.keep,codeAny_func ?_⟩
 obtain ⟨t,ht,hq⟩:=hbody A outer s H vs Q E (hr.deeper _) hsp
 have I:Inv (qo0 CX P w K mg base N qual scope f cdv A outer s H E) [] (qh3 N vs) H s1:=qkh S hr.hd e0 hl r x
 refine wpAny_mono (ht [] s1 (qh3 N vs) H _ I hq) (fun fl s' hs=>?_) fun e s' hs=>hs
 have fin:∀{σ':St} {H':Hp} {v:V} {u:Value},Inv (qo0 CX P w K mg base N qual scope f cdv A outer s H E) [] σ' H' s'→qbE v u→Q v H'→CE outer P w H s Q u s' :=
   fun {σ' H' v u} J rv q=>⟨v,H',J.os,J.bare,J.base,J.hok,rv,q⟩
 cases fl with
 | ret u =>
   obtain ⟨v,σ',H',J,rv,q⟩:=hs
   exact fin J rv q
 | next =>
   obtain ⟨σ',H',J,q⟩:=hs
   exact fin (v:=V.non) (u:=Value.none) J rfl q
 | brk =>
   obtain ⟨_,_,_,q⟩:=hs
   exact False.elim q
 | cont =>
   obtain ⟨_,_,_,q⟩:=hs
   exact False.elim q
end L2
namespace L2
open PySem PySem.Spec PyProof.Rows
section
variable {X:Cx} {x:Str} {p pos:Pos} {e:Expr} {es:List Expr} {t:TA} {id T:String} {r:List V→Hp→VK→Prop}
def tCB (r:List V→Hp→VK→Prop) (t:TA):TE:=fun σ H Q=>t σ H fun vs H1=>r vs H1 Q
theorem qaB (hc:qcV X (.builtin id) r) (hg:Gl X x) (hm:X.mg x=none) (hv:bootBuiltins x=some (.builtin id)) (ha:PA X (e::es) t) (hn:x ≠ "__name__" := by decide) (hdb:(x==("__debug__" : Str))=false:=by decide)
   (he:starEach (e::es) X.env=(false,eval e X.env)::starEach es X.env:=by rfl) (hpl:(backTo pos (starEach es X.env)).any (·.1)=false:=by rfl):PE X (.Call (.Name x p) (e::es) [] pos) (tCB r t):=by
 intro pins s σ H Q I h
 refine wpAny_Call_Name_kw (qeE I hg hm hv ?_ hn hdb)
 exact PyProof.Rows.callWith_builtin1 (thn (ha pos pins s σ H _ I h) fun us s1 ⟨vs,H1,I1,r1,q1⟩=>hc pins s1 σ H1 vs us Q I1 r1 q1) he hpl
theorem qck (hc:qcV X (.type T) r) (hg:Gl X x) (hm:X.mg x=none) (hv:bootBuiltins x=some (.type T)) (ha:PA X (e::es) t) (hn:x ≠ "__name__" := by decide) (hdb:(x==("__debug__" : Str))=false:=by decide)
   (he:starEach (e::es) X.env=(false,eval e X.env)::starEach es X.env:=by rfl) (hpl:(backTo pos (starEach es X.env)).any (·.1)=false:=by rfl):PE X (.Call (.Name x p) (e::es) [] pos) (tCB r t):=by
 intro pins s σ H Q I h
 refine wpAny_Call_Name_kw (qeE I hg hm hv ?_ hn hdb)
 exact PyProof.Rows.callWith_type1 (thn (ha pos pins s σ H _ I h) fun us s1 ⟨vs,H1,I1,r1,q1⟩=>hc pins s1 σ H1 vs us Q I1 r1 q1) he hpl
end
end L2
namespace HT
open PySem PyProof.Rows
section
open PySem.SeqAt
open PySem.AutoSeq1 (wpAny_loadPart')
open PySem.MeetsSeq PySem.MeetsSeq2 PySem.MeetsSeq3
end
section
variable {prog:Program} {w:World} {A:Around} {E:Value→Shared→Prop} {s:Shared}
def sIx (n d:Nat):Option Int→Nat
 | none=>d
 | some v=>if v<0 then (v+(n:Int)).toNat else min v.toNat n
theorem sIx_nat (n d k:Nat):sIx n d (some (k:Int))=min k n:=by
 show (if (k:Int)<0 then ((k:Int)+(n:Int)).toNat else min (k:Int).toNat n)=min k n
 rw [if_neg (by omega),Int.toNat_natCast]
theorem qq3 (n d:Nat) (hd:d≤n) (o:Option Int):sIx n d o≤n:=by
 cases o with
 | none=>exact hd
 | some v =>
   show (if v<0 then (v+(n:Int)).toNat else min v.toNat n)≤n
   by_cases hv:v<0
   · rw [if_pos hv];omega
   · rw [if_neg hv];exact Nat.min_le_right _ _
theorem qk7 (v:Int) (n d:Nat):(if v<0 then max (v+(n:Int)) 0 else min v (n:Int))=((sIx n d (some v):Nat):Int):=by
 show (if v<0 then max (v+(n:Int)) 0 else min v (n:Int))=(((if v<0 then (v+(n:Int)).toNat else min v.toNat n):Nat):Int)
 by_cases hv:v<0
 · simp only [if_pos hv];omega
 · simp only [if_neg hv];omega
theorem qjQ (lo hi:Option Int) (n:Nat):Builtin.Slice.sliceAdjust lo hi 1 (n:Int)=(((sIx n 0 lo:Nat):Int),((sIx n n hi:Nat):Int)):=by
 have h1:¬((1:Int)<0):=by omega
 unfold Builtin.Slice.sliceAdjust
 simp only [h1,if_false]
 refine Prod.ext ?_ ?_
 · cases lo with
   | none=>rfl
   | some v=>exact qk7 v n 0
 · cases hi with
   | none=>rfl
   | some v=>exact qk7 v n n
theorem qka (i j:Nat):Builtin.Slice.slicePlaces (i:Int) (j:Int) 1=j-i:=by
 unfold Builtin.Slice.slicePlaces
 have h1:(1:Int)>0:=by omega
 simp only [h1,if_true,Int.ediv_one]
 split<;>omega
theorem qge {v:Value} {o:Option Int} {Q:Option Int→Shared→Prop} (p:IsPart v o) (h:Q o s):wpAny (model prog w) A (Builtin.Slice.slicePartIndex v) Q E s:=by
 cases p with
 | none=>exact slicePart_none h
 | int i t=>exact slicePart_int h
theorem qeN {sl:Addr} {vl vu:Value} {lo hi:Option Int} {n:Nat} {Q:Int×Int×Nat→Shared→Prop} (hs:s.heap.IsSliceOf sl vl vu .none) (pl:IsPart vl lo) (pu:IsPart vu hi)
   (h:Q (((sIx n 0 lo:Nat):Int),1,sIx n n hi-sIx n 0 lo) s):wpAny (model prog w) A (Builtin.Slice.sliceApplied (.ref sl) (pure (n:Int))) Q E s:=by
 obtain ⟨os,hos,hcs,hds⟩:=id hs
 unfold Builtin.Slice.sliceApplied Builtin.Slice.sliceFields
 refine wpAny_bind (wpAny_bind (wpAny_field hos hds (x:=vl) rfl (wpAny_bind (wpAny_field hos hds (x:=vu) rfl (wpAny_bind (wpAny_field hos hds (x := .none) rfl (wpAny_pure ?_)))))))
 refine wpAny_bind (slicePart_none ?_)
 show wpAny _ _ (if ((1:Int)==0)=true then _ else _) _ _ s
 rw [if_neg (by decide)]
 refine wpAny_bind (qge pl (wpAny_bind (qge pu (wpAny_bind (wpAny_pure ?_)))))
 show wpAny _ _ (match Builtin.Slice.sliceAdjust lo hi 1 (n:Int) with | (lo,hi)=>pure (lo,(1:Int),Builtin.Slice.slicePlaces lo hi 1)) _ _ s
 rw [qjQ lo hi n]
 show wpAny _ _ (pure (((sIx n 0 lo:Nat):Int),(1:Int),Builtin.Slice.slicePlaces ((sIx n 0 lo:Nat):Int) ((sIx n n hi:Nat):Int) 1)) _ _ s
 rw [qka]
 exact wpAny_pure h
theorem qm6 (xs:Array Value) (i k:Nat):((List.range k).filterMap fun (m:Nat)=>xs[((i:Int)+(m:Int)*1).toNat]?).toArray=((xs.toList.drop i).take k).toArray:=by
 have e:(fun (m:Nat)=>xs[((i:Int)+(m:Int)*1).toNat]?)=fun m=>xs[i+m]?:=by
   funext m
   have:((i:Int)+(m:Int)*1).toNat=i+m:=by omega
   rw [this]
 rw [e]
 have:=pick_run xs i k
 rw [List.filterMap_map] at this
 have e2:((fun x=>xs[x]?) ∘ fun x=>i+x)=fun m=>xs[i+m]?:=rfl
 rw [e2] at this
 rw [this]
theorem getItem_tuple_cut {t sl:Addr} {items:Array Value} {vl vu:Value} {lo hi:Option Int} {Q:Value→Shared→Prop} (ht:IsTup s.heap t items) (hs:s.heap.IsSliceOf sl vl vu .none) (pl:IsPart vl lo) (pu:IsPart vu hi)
   (hw:¬(sIx items.size 0 lo=0∧sIx items.size items.size hi=items.size))
   (h:Q (.ref s.heap.objs.size) { s with heap:=s.heap.push { cls := .type "tuple",data := .seq ((items.toList.drop (sIx items.size 0 lo)).take (sIx items.size items.size hi-sIx items.size 0 lo)).toArray } })
   (hsz:items.size≤sizeLine):wpAny (model prog w) A (getItem (.ref t) (.ref sl)) Q E s:=by
 have htake:sizeOk (.seq ((items.toList.drop (sIx items.size 0 lo)).take (sIx items.size items.size hi-sIx items.size 0 lo)).toArray):=by
   show ((items.toList.drop (sIx items.size 0 lo)).take (sIx items.size items.size hi-sIx items.size 0 lo)).toArray.size≤sizeLine
   rw [List.size_toArray,List.length_take,List.length_drop,Array.length_toList]
   omega
 have hj:sIx items.size items.size hi≤items.size:=qq3 _ _ (Nat.le_refl _) hi
 obtain ⟨os,hos,hcs,hds⟩:=id hs
 have hTs:s.TypeIs (.ref sl) "slice" := ⟨os,hos,hcs⟩
 unfold getItem
 try with_reducible refine wpAny_holding ?_
 first | refine wpAny_bind (wpAny_pure ?_) | skip
 refine wpAny_bind (wpAny_sequenceKey ht.typeIs (by decide) ?_)
 refine wpAny_bind (wpAny_callSpecial?_slot (name:=Str.ofString "__getitem__") ht.typeIs PyProof.Rows.slot_tuple_getitem
   (wpAny_call_entry PyProof.Rows.slot_tuple_getitem ht.typeIs entry_tuple_getitem ?_ (args_tuple_getitem _ _)))
 show wpAny _ _ (Builtin.Tuple.tupleItemsOf (.ref t) >>= _) _ _ s
 refine wpAny_bind (tupleItemsOf_ ht ?_)
 refine wpAny_bind (wpAny_typeOf hTs ?_)
 rw [if_pos (by decide)]
 refine wpAny_bind (qeN hs pl pu ?_)
 have hno:¬((((sIx items.size 0 lo:Nat):Int)==0&&(1:Int)==1&&(sIx items.size items.size hi-sIx items.size 0 lo)==items.size)=true):=by
   intro q
   rw [Bool.and_eq_true,Bool.and_eq_true] at q
   have q1:((sIx items.size 0 lo:Nat):Int)=0:=eq_of_beq q.1.1
   have q2:sIx items.size items.size hi-sIx items.size 0 lo=items.size:=eq_of_beq q.2
   exact hw ⟨by omega,by omega⟩
 show wpAny _ _ (if (((sIx items.size 0 lo:Nat):Int)==0&&(1:Int)==1&&(sIx items.size items.size hi-sIx items.size 0 lo)==items.size)=true then _ else _) _ _ s
 rw [if_neg hno,qm6]
 first
   | exact wpAny_bind (m:=Builtin.Tuple.tupleExact _) (wpAny_newObj_type (wpAny_pure ⟨_,rfl,wpAny_pure h⟩) htake)
   | exact wpAny_bind (m:=Builtin.Tuple.tupleExact _) (wpAny_newObj_type (wpAny_bind (wpAny_pure (wpAny_pure ⟨_,rfl,wpAny_pure h⟩))) htake)
   | exact wpAny_bind (wpAny_bind (m:=Builtin.Tuple.tupleExact _) (wpAny_newObj_type (wpAny_pure (wpAny_pure ⟨_,rfl,wpAny_pure h⟩)) htake))
   | exact wpAny_bind (wpAny_bind (m:=Builtin.Tuple.tupleExact _) (wpAny_newObj_type (wpAny_pure ⟨_,rfl,wpAny_pure h⟩) htake))
end
end HT
namespace L2
open PySem PySem.Spec PyProof.Rows
abbrev TO:=St→Hp→(Option Int→Hp→Prop)→Prop
def PO (X:Cx) (e:Option Expr) (t:TO):Prop :=
 ∀(pins:List (Addr×Obj)) (s:Shared) (σ:St) (H:Hp) (Q:Option Int→Hp→Prop),Inv X pins σ H s→t σ H Q →
   wpAny (model X.prog X.w) X.A (evalPart e X.env) (fun u s'=>∃o H',Inv X pins σ H' s'∧IsPart u o∧Q o H') X.xe s
def qlZ:TO:=fun _ H Q=>Q none H
def qqG (t:TE):TO:=fun σ H Q=>t σ H fun x H1=>∃i,x = .int i∧Q (some i) H1
theorem qem {ns:List Int}:∀{us:List Value},qbd (ns.map V.int) us→IntsAre us ns:=by
 induction ns with
 | nil=>intro us r;rw [List.map_nil] at r;cases r;exact .nil
 | cons n ns ih =>
   intro us r
   rw [List.map_cons] at r
   cases r with
   | cons r1 r2 =>
     obtain ⟨t,e⟩:=r1
     subst e
     exact .cons n t (ih r2)
section
variable {X:Cx} {e:Expr} {te:TE} {lo hi:Option Expr} {tl th:TO} {pos p2:Pos}
theorem qcx:PO X none qlZ:=by
 intro pins s σ H Q I h
 rw [evalPart_none]
 exact wpAny_pure ⟨none,H,I,.none,h⟩
theorem qb2 (h:PE X e te):PO X (some e) (qqG te):=by
 intro pins s σ H Q I hw
 rw [evalPart_some]
 refine thn (h pins s σ H _ I hw) fun u s1 ⟨x,H1,I1,r1,q1⟩=>?_
 obtain ⟨i,rfl,q⟩:=q1
 obtain ⟨t,rfl⟩:=r1
 exact ⟨some i,H1,I1,.int i t,q⟩
def SlR (X:Cx) (r:V→Option Int→Option Int→Hp→VK→Prop):Prop :=
 ∀(pins:List (Addr×Obj)) (s:Shared) (σ:St) (H:Hp) (x:V) (v vl vu:Value) (lo hi:Option Int) (sl:Addr) (Q:VK),Inv X pins σ H s→qbE x v→s.heap.IsSliceOf sl vl vu .none→IsPart vl lo→IsPart vu hi→r x lo hi H Q →
   ∃T id,typeLookup (.type T) "__getitem__" = pure (some (.builtin id))∧s.TypeIs v T∧wpAny (model X.prog X.w) X.A (getItem v (.ref sl)) (EP X pins σ Q) X.xe s
def tSl (r:V→Option Int→Option Int→Hp→VK→Prop) (te:TE) (tl th:TO):TE:=fun σ H Q=>te σ H fun x H1=>tl σ H1 fun l H2=>th σ H2 fun u H3=>r x l u H3 Q
theorem qbH {r:V→Option Int→Option Int→Hp→VK→Prop} (hr:SlR X r) (he:PE X e te) (hl:PO X lo tl) (hu:PO X hi th):PE X (.Subscript e (.Slice lo hi none p2) pos) (tSl r te tl th):=by
 intro pins s σ H Q I h
 refine Subscript_ (thn (he pins s σ H _ I h) fun v s1 ⟨x,H1,I1,r1,q1⟩=>?_)
 refine wpAny_Slice (thn (hl pins s1 σ H1 _ I1 q1) fun vl s2 ⟨l,H2,I2,pl,q2⟩=>thn (hu pins s2 σ H2 _ I2 q2) fun vu s3 ⟨u,H3,I3,pu,q3⟩=>?_)
 rw [evalPart_none]
 refine wpAny_pure ?_
 have I4:Inv X pins σ H3 { s3 with heap:=s3.heap.push { cls := .type "slice",data := .fields #[vl,vu,.none] } }:=I3.kept (t':=s3.toks) fun b ob q=>Heap.get?_push_of_some _ q
 obtain ⟨T,id,hT,ht,hg⟩:=hr pins { s3 with heap:=s3.heap.push { cls := .type "slice",data := .fields #[vl,vu,.none] } } σ H3 x v vl vu l u s3.heap.objs.size Q I4 r1 (Heap.IsSliceOf.new ..) pl pu q3
 show wpAny (model X.prog X.w) X.A (subscriptTail e (.Slice lo hi none p2) v (.ref s3.heap.objs.size)) (EP X pins σ Q) X.xe { s3 with heap:=s3.heap.push { cls := .type "slice",data := .fields #[vl,vu,.none] } }
 exact tail_any (ops:=[.ref s3.heap.objs.size,v]) ht hT hg (by with_unfolding_all rfl)
def qkc (xs:List V) (lo hi:Option Int):List V:=(xs.drop (HT.sIx xs.length 0 lo)).take (HT.sIx xs.length xs.length hi-HT.sIx xs.length 0 lo)
theorem qfb (xs:List V) (lo hi:Option Int):(qkc xs lo hi).length≤xs.length:=by
 unfold qkc
 rw [List.length_take,List.length_drop]
 omega
def qse (K:PySem.W.Frag):V→Option Int→Option Int→Hp→VK→Prop:=fun x lo hi H Q=>∃a xs,x = .ref a∧SqT K H a xs ∧
 ¬(HT.sIx xs.length 0 lo=0∧HT.sIx xs.length xs.length hi=xs.length)∧∀p,H p=none→Q (.ref p) (upd H p (.tup (qkc xs lo hi)))
theorem qra:SlR X (qse X.K):=by
 intro pins s σ H x v vl vu lo hi sl Q I rx hs pl pu h
 obtain ⟨a,xs,rfl,hx,hw,q⟩:=h
 cases rx
 obtain ⟨its,r,ht,hz⟩:=I.tuple hx
 have hlen:its.toArray.size=xs.length:=by rw [List.size_toArray];exact r.length.symm
 refine ⟨"tuple",_,PyProof.Rows.slot_tuple_getitem.lookup,ht.typeIs,?_⟩
 refine HT.getItem_tuple_cut ht hs pl pu (by rw [hlen];exact hw) ?_ (by rw [hlen];exact hz)
 rw [hlen]
 refine ⟨.ref s.heap.objs.size,_,I.laid (t':=s.toks) (o := .tup (qkc xs lo hi)) (fun b ob q=>Heap.get?_push_of_some _ q) (Nat.le_refl _) ?_,rfl,q _ (I.hok.fresh (Nat.le_refl _))⟩
 exact ⟨Nat.le_trans (qfb xs lo hi) hz,_,(r.drop (HT.sIx xs.length 0 lo)).take (HT.sIx xs.length xs.length hi-HT.sIx xs.length 0 lo),IsTup.new _ _⟩
end
end L2
namespace L2
open PySem PySem.Spec PyProof.Rows
def ixN (n:Nat) (i:Int):Option Nat:=if 0≤i then (if i<n then some i.toNat else none) else if -(n:Int)≤i then some (i+n).toNat else none
def atI {α:Type} (xs:List α) (i:Int):Option α:=(ixN xs.length i).bind fun j=>xs[j]?
theorem qoX {n:Nat} {i:Int} {j:Nat} (h:ixN n i=some j):seqIndex? i n=some j∧j<n∧-(n:Int)≤i∧i<n:=by
 unfold ixN at h
 by_cases h0:0≤i
 · rw [if_pos h0] at h
   by_cases h1:i<n
   · rw [if_pos h1] at h
     have e:i.toNat=j:=Option.some.inj h
     exact ⟨by rw [seqIndex_of h0 h1,e],by omega,by omega,h1⟩
   · rw [if_neg h1] at h;cases h
 · rw [if_neg h0] at h
   by_cases h1:-(n:Int)≤i
   · rw [if_pos h1] at h
     have e:(i+n).toNat=j:=Option.some.inj h
     exact ⟨by rw [seqIndex_neg (by omega) h1,e],by omega,h1,by omega⟩
   · rw [if_neg h1] at h;cases h
theorem qiP {α:Type} {xs:List α} {i:Int} {v:α} (h:atI xs i=some v):∃j,seqIndex? i xs.length=some j∧xs[j]?=some v∧j<xs.length∧-(xs.length:Int)≤i∧i<xs.length:=by
 unfold atI at h
 cases e:ixN xs.length i with
 | none=>rw [e] at h;cases h
 | some j =>
   rw [e] at h
   obtain ⟨h1,h2,h3,h4⟩:=qoX e
   exact ⟨j,h1,h,h2,h3,h4⟩
theorem qaL {α:Type} {xs:List α} {j:Nat} {v:α} (h:xs[j]?=some v):atI xs (j:Int)=some v:=by
 have hj:j<xs.length:=(List.getElem?_eq_some_iff.mp h).1
 have e:ixN xs.length (j:Int)=some j:=by
   unfold ixN
   rw [if_pos (by omega),if_pos (by omega)];simp
 unfold atI;rw [e];exact h
def qoL (b:Expr):Prop:=∀o i,subscripted b false o i=operate [o,i] (getItem o i)
def IxR (X:Cx) (r:R2):Prop :=
 ∀(value slice:Expr) (pins:List (Addr×Obj)) (s:Shared) (σ:St) (H:Hp) (x y:V) (v u:Value) (Q:VK),Inv X pins σ H s→qbE x v→qbE y u→r x y H Q →
   subscripted slice false v u=operate [v,u] (getItem v u)→wpAny (model X.prog X.w) X.A (subscriptTail value slice v u) (EP X pins σ Q) X.xe s
def MtR (X:Cx) (id:String) (r:V→List V→Hp→VK→Prop):Prop :=
 ∀(pins:List (Addr×Obj)) (s:Shared) (σ:St) (H:Hp) (x:V) (xs:List V) (v:Value) (us:List Value) (Q:VK),Inv X pins σ H s→qbE x v→qbd xs us→r x xs H Q →
   wpAny (model X.prog X.w) X.A (call (.builtin id) (v::us)) (EP X pins σ Q) X.xe s
section
variable {X:Cx} {a b:Expr} {ta tb:TE} {pos:Pos}
theorem IxR.or {r r':R2} (h:IxR X r) (h':IxR X r'):IxR X (fun x y H Q=>r x y H Q∨r' x y H Q):=by
 intro value slice pins s σ H x y v u Q I rx ry q hs
 rcases q with q | q
 · exact h value slice pins s σ H x y v u Q I rx ry q hs
 · exact h' value slice pins s σ H x y v u Q I rx ry q hs
theorem qaE {r:R2} (hr:IxR X r) (ha:PE X a ta) (hb:PE X b tb) (hs:qoL b):PE X (.Subscript a b pos) (tOp r ta tb):=by
 intro pins s σ H Q I h
 exact Subscript_ (qrg ha hb I h fun v u s2 x y H2 I2 rx ry q=>hr a b pins s2 σ H2 x y v u Q I2 rx ry q (hs _ _))
def qr3 (K:PySem.W.Frag):R2:=fun x y H Q=>∃p xs i v,x = .ref p∧y = .int i∧SqL K H p xs∧atI xs i=some v∧Q v H
def qsj (K:PySem.W.Frag):R2:=fun x y H Q=>∃p xs i v,x = .ref p∧y = .int i∧SqT K H p xs∧atI xs i=some v∧Q v H
def qr9:R2:=fun x y H Q=>∃z i c,x = .str z∧y = .int i∧z.length≤sizeLine∧atI z.cps.toList i=some c∧Q (.str ⟨#[c]⟩) H
theorem qos:IxR X (qr3 X.K):=by
 intro value slice pins s σ H x y v u Q I rx ry h hs
 obtain ⟨p,xs,i,z,rfl,rfl,hq,he,q⟩:=h
 cases rx
 obtain ⟨t,rfl⟩:=ry
 obtain ⟨its,r,pl,hz⟩:=I.list hq
 obtain ⟨j,h1,h2,h3,h4,h5⟩:=qiP he
 obtain ⟨w,ew,rw'⟩:=r.get h2
 have hl:=r.length
 have hn:=qhL
 have fin:EP X pins σ Q w s:=⟨z,H,I,rw',q⟩
 by_cases h0:0≤i
 · have hj:i.toNat=j:=by
     rw [seqIndex_of h0 h5] at h1
     exact Option.some.inj h1
   exact item_listR pl.isList h0 (by omega) (by rw [hj];simpa using ew) fin hs
 · have hj:(i+(its.toArray.size:Int)).toNat=j:=by
     rw [seqIndex_neg (by omega) h4] at h1
     rw [List.size_toArray,←hl]
     exact Option.some.inj h1
   exact subscriptTail_builtinR (x:=w) pl.isList.typeIs slot_list_getitem.lookup
     (wpAny_getItem_list_neg (Q:=fun r s'=>r=w∧EP X pins σ Q r s') pl.isList (by omega) (by rw [List.size_toArray]<;>omega) (by omega) (by rw [hj];simpa using ew) ⟨rfl,fin⟩) hs
theorem qqs:IxR X (qsj X.K):=by
 intro value slice pins s σ H x y v u Q I rx ry h hs
 obtain ⟨p,xs,i,z,rfl,rfl,hq,he,q⟩:=h
 cases rx
 obtain ⟨t,rfl⟩:=ry
 obtain ⟨its,r,pl,hz⟩:=I.tuple hq
 obtain ⟨j,h1,h2,h3,h4,h5⟩:=qiP he
 obtain ⟨w,ew,rw'⟩:=r.get h2
 have hl:=r.length
 have hn:=qhL
 have fin:EP X pins σ Q w s:=⟨z,H,I,rw',q⟩
 exact subscriptTail_builtinR (x:=w) pl.typeIs slot_tuple_getitem.lookup
   (getItem_tuple (j:=j) (Q:=fun r s'=>r=w∧EP X pins σ Q r s') pl (by omega) (by omega) (by rw [List.size_toArray,←hl];exact h1) (by simpa using ew) ⟨rfl,fin⟩) hs
theorem qpV:IxR X qr9:=by
 intro value slice pins s σ H x y v u Q I rx ry h hs
 obtain ⟨z,i,c,rfl,rfl,hz,he,q⟩:=h
 obtain ⟨t,rfl⟩:=rx
 obtain ⟨t',rfl⟩:=ry
 obtain ⟨j,h1,h2,h3,h4,h5⟩:=qiP he
 have hl:z.cps.toList.length=z.length:=by simp [Str.length]
 rw [hl] at h1 h4 h5
 have hn:=qhL
 exact tail_any (typeIs_str s z t) slot_str_getitem.lookup (getItem_str (c:=c) (by
   have e1:decide (i < -(2^63:Int))=false:=decide_eq_false (by omega)
   have e2:decide (i≥2^63)=false:=decide_eq_false (by omega)
   rw [e1,e2,Bool.or_false]) (by rw [h1];simpa using h2) ⟨.str ⟨#[c]⟩,H,I.tok _,⟨_,rfl⟩,q⟩) hs
def rIx (K:PySem.W.Frag):R2:=fun x y H Q=>qr3 K x y H Q∨qsj K x y H Q∨qr9 x y H Q
theorem qqY:IxR X (rIx X.K):=qos.or (qqs.or qpV)
theorem qhX (lo hi:Option Int) (n:Nat):(sliceBounds lo hi none n).1=((HT.sIx n 0 lo:Nat):Int)∧(sliceBounds lo hi none n).2.1=((HT.sIx n n hi:Nat):Int)∧(sliceBounds lo hi none n).2.2=1:=by
 refine ⟨?_,?_,rfl⟩
 · cases lo with
   | none=>simp [sliceBounds,HT.sIx]
   | some i =>
     simp only [sliceBounds,HT.sIx,Option.getD_none,show (1:Int)>0 by decide,if_true]
     by_cases h:i<0
     · simp only [h,if_true]<;>omega
     · simp only [h,if_false]<;>omega
 · cases hi with
   | none=>simp [sliceBounds,HT.sIx]
   | some i =>
     simp only [sliceBounds,HT.sIx,Option.getD_none,show (1:Int)>0 by decide,if_true]
     by_cases h:i<0
     · simp only [h,if_true]<;>omega
     · simp only [h,if_false]<;>omega
theorem qgY (its:List Value) (lo hi:Option Int):slicePick its.toArray lo hi none=((its.drop (HT.sIx its.length 0 lo)).take (HT.sIx its.length its.length hi-HT.sIx its.length 0 lo)).toArray:=by
 obtain ⟨h1,h2,h3⟩:=qhX lo hi its.toArray.size
 unfold slicePick
 rw [h1,h2,h3]
 simp only [sliceRange_one,pick_run,List.size_toArray]<;>rfl
def qsg (K:PySem.W.Frag):V→Option Int→Option Int→Hp→VK→Prop:=fun x lo hi H Q=>∃a xs,x = .ref a∧SqL K H a xs∧∀p,H p=none→Q (.ref p) (upd H p (.lst (qkc xs lo hi)))
theorem qod:SlR X (qsg X.K):=by
 intro pins s σ H x v vl vu lo hi sl Q I rx hs pl pu h
 obtain ⟨a,xs,rfl,hx,q⟩:=h
 cases rx
 obtain ⟨its,r,ht,hz⟩:=I.list hx
 have hlen:=r.length
 refine ⟨"list",_,slot_list_getitem.lookup,ht.isList.typeIs,?_⟩
 refine wpAny_getItem_list_slice ht.isList hs pl pu .none (by simp) ?_ (by rw [List.size_toArray]<;>omega)
 rw [qgY,←hlen]
 refine ⟨.ref s.heap.objs.size,_,I.laid (t':=s.toks) (o := .lst (qkc xs lo hi)) (fun b ob q=>Heap.get?_push_of_some _ q) (Nat.le_refl _) ?_,rfl,q _ (I.hok.fresh (Nat.le_refl _))⟩
 exact ⟨Nat.le_trans (qfb xs lo hi) hz,_,0,(r.drop (HT.sIx xs.length 0 lo)).take (HT.sIx xs.length xs.length hi-HT.sIx xs.length 0 lo),Heap.get?_push_size _ rfl⟩
def qb0:V→Bool
 | .non=>true
 | .bl _=>true
 | .int _=>true
 | .str _=>true
 | _=>false
def eqV:V→V→Bool
 | .non,.non=>true
 | .bl a,.bl b=>a==b
 | .bl a,.int b=>(if a then 1 else 0)==b
 | .int a,.bl b=>a==(if b then 1 else 0)
 | .int a,.int b=>a==b
 | .str a,.str b=>a==b
 | _,_=>false
theorem qnm {A:Around} {s:Shared} {y x:V} {u v:Value} (ry:qbE y u) (rx:qbE x v) (fy:qb0 y=true) (fx:qb0 x=true):SeqAt.EqAt A s u v (eqV y x):=by
 cases y with
 | non =>
   cases ry
   cases x with
   | non=>cases rx;exact SeqAt.EqAt.same _
   | bl b=>cases rx;exact SeqAt.EqAt.none_bool b
   | int b=>obtain ⟨t,rfl⟩:=rx;exact SeqAt.EqAt.none_int b t
   | str b=>obtain ⟨t,rfl⟩:=rx;exact SeqAt.EqAt.none_str b t
   | _=>exact absurd (show false=true from fx) Bool.false_ne_true
 | bl a =>
   cases ry
   cases x with
   | non=>cases rx;exact SeqAt.EqAt.bool_none a
   | bl b=>cases rx;exact SeqAt.EqAt.bool_bool a b
   | int b=>obtain ⟨t,rfl⟩:=rx;exact SeqAt.EqAt.bool_int a b t
   | str b=>obtain ⟨t,rfl⟩:=rx;exact SeqAt.EqAt.bool_str a b t
   | _=>exact absurd (show false=true from fx) Bool.false_ne_true
 | int a =>
   obtain ⟨t',rfl⟩:=ry
   cases x with
   | non=>cases rx;exact SeqAt.EqAt.int_none a t'
   | bl b=>cases rx;exact SeqAt.EqAt.int_bool a t' b
   | int b=>obtain ⟨t,rfl⟩:=rx;exact SeqAt.EqAt.int_int a t' b t
   | str b=>obtain ⟨t,rfl⟩:=rx;exact SeqAt.EqAt.int_str a t' b t
   | _=>exact absurd (show false=true from fx) Bool.false_ne_true
 | str a =>
   obtain ⟨t',rfl⟩:=ry
   cases x with
   | non=>cases rx;exact SeqAt.EqAt.str_none a t'
   | bl b=>cases rx;exact SeqAt.EqAt.str_bool a t' b
   | int b=>obtain ⟨t,rfl⟩:=rx;exact SeqAt.EqAt.str_int a t' b t
   | str b=>obtain ⟨t,rfl⟩:=rx;exact SeqAt.EqAt.str_str a t' b t
   | _=>exact absurd (show false=true from fx) Bool.false_ne_true
 | _=>exact absurd (show false=true from fy) Bool.false_ne_true
def eqU (x:V) (u:Value):Bool:=match u with
 | .none=>eqV .non x
 | .bool b=>eqV (.bl b) x
 | .int i _=>eqV (.int i) x
 | .str z _=>eqV (.str z) x
 | _=>false
theorem qny {x y:V} {u:Value} (r:qbE y u) (f:qb0 y=true):eqU x u=eqV y x:=by
 cases y with
 | non=>cases r;rfl
 | bl b=>cases r;rfl
 | int i=>obtain ⟨t,rfl⟩:=r;rfl
 | str z=>obtain ⟨t,rfl⟩:=r;rfl
 | _=>exact absurd (show false=true from f) Bool.false_ne_true
theorem qfS {x:V}:∀{xs:List V} {us:List Value},qbd xs us→xs.all qb0=true→us.any (eqU x)=xs.any fun y=>eqV y x
 | _,_,.nil,_=>rfl
 | y::xs,u::us,.cons r t,f=>by
   rw [List.all_cons,Bool.and_eq_true] at f
   rw [List.any_cons,List.any_cons,qny r f.1,qfS t f.2]
theorem qdZ {A:Around} {s:Shared} {x:V} {v:Value} (rx:qbE x v) (fx:qb0 x=true):∀{xs:List V} {us:List Value},qbd xs us→xs.all qb0=true→∀u∈us,SeqAt.EqAt A s u v (eqU x u)
 | _,_,.nil,_=>fun u hu=>by cases hu
 | y::xs,u::us,.cons r t,f=>fun u' hu=>by
   rw [List.all_cons,Bool.and_eq_true] at f
   rcases List.mem_cons.mp hu with rfl | hu
   · rw [qny r f.1];exact qnm r rx f.1 fx
   · exact qdZ rx fx t f.2 u' hu
def inV (x:V) (xs:List V):Bool:=xs.any fun y=>eqV y x
def rIn (K:PySem.W.Frag) (neg:Bool):R2:=fun x y H Q=>∃p xs,y = .ref p∧(SqL K H p xs∨SqT K H p xs)∧qb0 x=true∧xs.all qb0=true∧Q (.bl (if neg then !inV x xs else inV x xs)) H
theorem qls:OpR X (compareOp .In) (rIn X.K false):=by
 intro pins s σ H x y v u Q I rx ry h
 obtain ⟨p,xs,rfl,hq,fx,fs,q⟩:=h
 cases ry
 rcases hq with hq | hq
 · obtain ⟨its,r,pl,hz⟩:=I.list hq
   refine SeqAt.in_listAt (eqU x) pl.isList (fun w hw=>qdZ rx fx r fs w (by simpa using hw)) ⟨.bl _,H,I,rfl,?_⟩
   rw [show its.toArray.any (eqU x)=its.any (eqU x) by simp,qfS r fs]
   exact q
 · obtain ⟨its,r,pl,hz⟩:=I.tuple hq
   refine SeqAt.in_tupleAt (eqU x) pl (fun w hw=>qdZ rx fx r fs w (by simpa using hw)) ⟨.bl _,H,I,rfl,?_⟩
   rw [show its.toArray.any (eqU x)=its.any (eqU x) by simp,qfS r fs]
   exact q
theorem qhP:OpR X (compareOp .NotIn) (rIn X.K true):=by
 intro pins s σ H x y v u Q I rx ry h
 obtain ⟨p,xs,rfl,hq,fx,fs,q⟩:=h
 cases ry
 rcases hq with hq | hq
 · obtain ⟨its,r,pl,hz⟩:=I.list hq
   refine SeqAt.notIn_listAt (eqU x) pl.isList (fun w hw=>qdZ rx fx r fs w (by simpa using hw)) ⟨.bl _,H,I,rfl,?_⟩
   rw [show its.toArray.any (eqU x)=its.any (eqU x) by simp,qfS r fs]
   exact q
 · obtain ⟨its,r,pl,hz⟩:=I.tuple hq
   refine SeqAt.notIn_tupleAt (eqU x) pl (fun w hw=>qdZ rx fx r fs w (by simpa using hw)) ⟨.bl _,H,I,rfl,?_⟩
   rw [show its.toArray.any (eqU x)=its.any (eqU x) by simp,qfS r fs]
   exact q
theorem qhv:qcV X (.builtin "len") (fun xs H Q=>∃p ys,xs=[.ref p]∧(SqL X.K H p ys∨SqT X.K H p ys)∧Q (.int ys.length) H):=by
 intro pins s σ H xs us Q I r h
 obtain ⟨p,ys,rfl,hq,q⟩:=h
 obtain ⟨u,rfl,rx⟩:=qdD r
 cases rx
 have hn:=qhL
 rcases hq with hq | hq
 · obtain ⟨its,r',pl,hz⟩:=I.list hq
   have hlen:=r'.length
   exact Calls.call_len_list pl.isList (by simp only [List.size_toArray]<;>omega) ⟨.int ys.length,H,I.tok _,⟨s.toks+1,by rw [List.size_toArray,hlen]⟩,q⟩
 · obtain ⟨its,r',pl,hz⟩:=I.tuple hq
   have hlen:=r'.length
   exact len_tuple pl (by simp only [List.size_toArray]<;>omega) ⟨.int ys.length,H,I.tok _,⟨s.toks+1,by rw [List.size_toArray,hlen]⟩,q⟩
theorem qhx:qcV X (.builtin "len") (fun xs H Q=>∃z,xs=[.str z]∧z.length≤sizeLine∧Q (.int z.length) H):=by
 intro pins s σ H xs us Q I r h
 obtain ⟨z,rfl,hz,q⟩:=h
 obtain ⟨u,rfl,t,rfl⟩:=qdD r
 have hn:=qhL
 exact len_str (by omega) ⟨.int z.length,H,I.tok _,⟨_,rfl⟩,q⟩
def tyV (K:PySem.W.Frag) (T:String) (x:V) (H:Hp):Prop:=match x with
 | .str _=>T = "str"
 | .int _=>T = "int"
 | .ref p=>(T = "list" ∧ ∃xs,SqL K H p xs)∨(T = "tuple" ∧ ∃o,K.lookup p=some o∧o.cls = .type "tuple" ∧ o.dict=none) ∨
     (T = "dict" ∧ ((∃kvs,H p=some (.dK kvs))∨∃kvs,H p=some (.dT kvs)))∨(T = "set" ∧ ∃S n,H p=some (.set S n))
 | _=>False
theorem qnB {pins:List (Addr×Obj)} {σ:St} {H:Hp} {s:Shared} {T:String} {x:V} {v:Value} (I:Inv X pins σ H s) (r:qbE x v) (ty:tyV X.K T x H) :
   s.TypeIs v T∧∀a,v = .ref a→∃ob,s.heap.get? a=some ob∧ob.dict=none:=by
 cases x with
 | str z =>
   obtain ⟨t,rfl⟩:=r
   cases (show T = "str" from ty)
   exact ⟨typeIs_str s z t,fun _ e=>nomatch e⟩
 | int i =>
   obtain ⟨t,rfl⟩:=r
   cases (show T = "int" from ty)
   exact ⟨typeIs_int s i t,fun _ e=>nomatch e⟩
 | ref p =>
   cases r
   rcases ty with ⟨rfl,xs,hq⟩ | ⟨rfl,o,hk,hc,hd⟩ | ⟨rfl,hk⟩ | ⟨rfl,S,n,hk⟩
   · obtain ⟨its,_,pl,_⟩:=I.list hq
     refine ⟨pl.isList.typeIs,fun a e=>?_⟩
     cases e
     obtain ⟨o,n,e,c,hd,_⟩:=pl
     exact ⟨o,e,hd⟩
   · refine ⟨⟨o,I.kIn p o hk,hc⟩,fun a e=>?_⟩
     cases e
     exact ⟨o,I.kIn _ o hk,hd⟩
   · have z:∃o,s.heap.get? p=some o∧o.ExactDict:=by
       rcases hk with ⟨kvs,hk⟩ | ⟨kvs,hk⟩
       · obtain ⟨_,_,_,_,o,_,_,e,ex,_⟩:=I.hok p _ hk
         exact ⟨o,e,ex⟩
       · obtain ⟨_,_,_,_,o,_,_,e,ex,_⟩:=I.hok p _ hk
         exact ⟨o,e,ex⟩
     obtain ⟨o,e,ex⟩:=z
     refine ⟨⟨o,e,ex.1⟩,fun a e2=>?_⟩
     cases e2
     exact ⟨o,e,ex.2.1⟩
   · obtain ⟨o,_,_,_,e,ex,_⟩:=I.hok p _ hk
     refine ⟨⟨o,e,ex.1⟩,fun a e2=>?_⟩
     cases e2
     exact ⟨o,e,ex.2.1⟩
 | _=>exact False.elim ty
def qr4 (K:PySem.W.Frag) (T:String) (r:V→List V→Hp→VK→Prop) (to:TE):TE:=fun σ H Q=>to σ H fun x H1=>tyV K T x H1∧r x [] H1 Q
def tBM (K:PySem.W.Frag) (T:String) (r:V→List V→Hp→VK→Prop) (to:TE) (t:TA):TE:=fun σ H Q=>to σ H fun x H1=>tyV K T x H1∧t σ H1 fun xs H2=>r x xs H2 Q
variable {o e:Expr} {es:List Expr} {to:TE} {t:TA} {name:Str} {apos cpos:Pos} {T id:String} {r:V→List V→Hp→VK→Prop}
theorem qqM (pa:PlainAttrs T) (slot:Slot T name id) (hty:typeOf (.builtin id)=pure (.type "method_descriptor")) (hm:MtR X id r) (ho:PE X o to)
   (hbase:attributeBase o name X.env (eval o X.env)=eval o X.env:=by rfl) (hline:(apos.endLine==cpos.line)=true:=by rfl):PE X (.Call (.Attribute o name apos) [] [] cpos) (qr4 X.K T r to):=by
 intro pins s σ H Q I h
 refine wpAny_Call_method0_late hbase hline (thn (ho pins s σ H _ I h) fun v s1 ⟨x,H1,I1,r1,ty,q1⟩=>?_)
 obtain ⟨h1,h2⟩:=qnB I1 r1 ty
 exact ⟨T,id,pa,slot,hty,h1,h2,Calls.callWith_builtin rfl (PySem.evalArgs_none (hm pins s1 σ H1 x [] v [] Q I1 r1 .nil q1))⟩
theorem qbp (pa:PlainAttrs T) (slot:Slot T name id) (hty:typeOf (.builtin id)=pure (.type "method_descriptor")) (hm:MtR X id r) (ho:PE X o to) (ha:PA X (e::es) t)
   (hbase:attributeBase o name X.env (eval o X.env)=eval o X.env:=by rfl)
   (hfew:((backTo cpos (starEach (e::es) X.env)).all (fun x=>!x.1)&&(backToKw cpos (keywordEach [] X.env)).all (fun x=>x.1.isSome)
     && decide ((e::es).length+([]:List Keyword).length+(if ([]:List Keyword).isEmpty then 0 else 1)<30))=true:=by rfl)
   (hline:(apos.endLine==cpos.line)=true:=by rfl) (hs:starEach (e::es) X.env=(false,eval e X.env)::starEach es X.env:=by rfl) (hplain:(backTo cpos (starEach es X.env)).any (·.1)=false:=by rfl) :
   PE X (.Call (.Attribute o name apos) (e::es) [] cpos) (tBM X.K T r to t):=by
 intro pins s σ H Q I h
 refine wpAny_Call_method_late hbase hfew hline rfl (thn (ho pins s σ H _ I h) fun v s1 ⟨x,H1,I1,r1,ty,q1⟩=>?_)
 obtain ⟨h1,h2⟩:=qnB I1 r1 ty
 refine ⟨T,id,pa,slot,hty,h1,h2,?_⟩
 have hA:=ha cpos pins s1 σ H1 _ I1 q1
 rw [hs] at hA ⊢
 refine Calls.callWith_builtin (by show (false||(backTo cpos (starEach es X.env)).any (·.1))=false;rw [hplain]<;>rfl) (Calls.evalArgs_plain ?_)
 exact thn hA fun us s2 ⟨vs,H2,I2,r2,q2⟩=>hm pins s2 σ H2 x vs v us Q I2 r1 r2 q2
end
end L2
namespace L2
open PySem PySem.Spec PyProof.Rows
def MtM (X:Cx) (id:String) (r:V→List V→Hp→VK→Prop):Prop :=
 ∀(pins:List (Addr×Obj)) (s:Shared) (σ:St) (H:Hp) (x:V) (xs:List V) (v:Value) (us:List Value) (Q:VK),Inv X pins σ H s→qbE x v→qbd xs us→r x xs H Q →
   wpAny (model X.prog X.w) X.A (call (.builtin id) (v::us)) (EP X pins σ Q) X.xe s
theorem qbd.one:∀{x:V} {us:List Value},qbd [x] us→∃u,us=[u]∧qbE x u
 | _,_,.cons r .nil=>⟨_,rfl,r⟩
section
variable {X:Cx} {pins:List (Addr×Obj)} {σ:St} {H:Hp} {s:Shared} {l b:Addr} {xs ys zs:List V}
theorem Inv.lset {its its':List Value} {n:Nat} {f:Array Value→Array Value} {t':Nat} (I:Inv X pins σ H s) (hH:H l=some (.lst xs))
   (e:s.heap.get? l=some { cls := .type "list",data := .seq its.toArray n }) (hf:f its.toArray=its'.toArray) (hv:qbd ys its') (hz:ys.length≤sizeLine) :
   Inv X pins σ (upd H l (.lst ys)) { s with heap:=s.heap.update l (Obj.mapSeq f),toks:=t' }:=by
 have q:=PySem.IsL.update e f
 rw [hf] at q
 refine I.write (x:=l) (e:=l) (by rw [hH];exact trivial) (.inl rfl) (fun b' u hb hu=>(Heap.get?_update_other s.heap (Obj.mapSeq f) (Ne.symm hb)).trans hu) ⟨_,q⟩ ?_
 exact ⟨hz,its',_,hv,q⟩
theorem Inv.lnew {its:List Value} {t':Nat} (I:Inv X pins σ H s) (hv:qbd ys its) (hz:ys.length≤sizeLine) :
   Inv X pins σ (upd H s.heap.objs.size (.lst ys)) { s with heap:=s.heap.push { cls := .type "list",data := .seq its.toArray },toks:=t' } :=
 I.laid (fun _ _ q=>Heap.get?_push_of_some _ q) (Nat.le_refl _) ⟨hz,its,0,hv,Heap.get?_push_size _ rfl⟩
theorem Inv.fresh (I:Inv X pins σ H s):H s.heap.objs.size=none:=I.hok.fresh (Nat.le_refl _)
theorem Inv.lstM (I:Inv X pins σ H s) (hH:H l=some (.lst xs)):xs.length≤sizeLine∧∃(its:List Value) (n:Nat),qbd xs its∧xs.length=its.length∧s.heap.get? l=some { cls := .type "list",data := .seq its.toArray n }:=by
 obtain ⟨z,its,n,r,e⟩:=I.hok l _ hH
 exact ⟨z,its,n,r,r.length,e⟩
end
section
variable {X:Cx}
def qkB:V→List V→Hp→VK→Prop:=fun x vs H Q=>∃l xs y,x = .ref l∧vs=[y]∧H l=some (.lst xs)∧xs.length<sizeLine∧Q .non (upd H l (.lst (xs++[y])))
theorem qcj:MtM X "list.append" qkB:=by
 intro pins s σ H x vs v us Q I rx rv h
 obtain ⟨l,xs,y,rfl,rfl,hH,hz,q⟩:=h
 cases rx
 obtain ⟨u,rfl,ru⟩:=rv.one
 obtain ⟨z,its,n,r,hl,e⟩:=I.lstM hH
 refine call_meets F.slot_list_append ⟨_,e,rfl⟩ F.entry_list_append (F.args_list_append_2 _ _) (PySem.list_append l its.toArray n u (by rw [List.size_toArray];omega)) ⟨e,?_⟩
 refine ⟨.non,_,I.lset (its':=its++[u]) hH e (by simp) (r.append (.cons ru .nil)) ?_,rfl,q⟩
 rw [List.length_append,List.length_singleton]
 omega
end
section
variable {prog:Program} {w:World} {A:Around} {E:Value→Shared→Prop} {s:Shared}
set_option maxRecDepth 100000 in
end
section
variable {X:Cx}
end
end L2
namespace L2
open PySem PySem.Spec PyProof.Rows
section
variable {κ:Type} [DecidableEq κ]
def qdr (kvs:List (κ×V)) (k:κ):Option V:=(kvs.find? fun kv=>decide (kv.1=k)).map (·.2)
def qil (kvs:List (κ×V)) (k:κ) (v:V):List (κ×V) :=
 if (kvs.any fun kv=>decide (kv.1=k))=true then kvs.map (fun kv=>if kv.1=k then (kv.1,v) else kv) else kvs++[(k,v)]
theorem qbI {p:κ×V} {r:List (κ×V)} {k:κ} (e:p.1=k):qdr (p::r) k=some p.2:=by simp [qdr,List.find?_cons,e]
theorem qbJ {p:κ×V} {r:List (κ×V)} {k:κ} (e:¬p.1=k):qdr (p::r) k=qdr r k:=by simp [qdr,List.find?_cons,e]
theorem qd5 (k:κ):∀kvs:List (κ×V),(kvs.any fun kv=>decide (kv.1=k))=(qdr kvs k).isSome
 | []=>rfl
 | p::r=>by
   rw [List.any_cons]
   by_cases e:p.1=k
   · simp only [qbI e,decide_eq_true e,Bool.true_or,Option.isSome_some]
   · rw [qbJ e,decide_eq_false e,Bool.false_or];exact qd5 k r
theorem qi7 (k j:κ) (y:V):∀kvs:List (κ×V),qdr (kvs.map fun kv=>if kv.1=k then (kv.1,y) else kv) j=(qdr kvs j).map fun x=>if j=k then y else x
 | []=>rfl
 | p::r=>by
   have ih:=qi7 k j y r
   rw [List.map_cons]
   by_cases h:p.1=k
   · rw [if_pos h]
     by_cases e:p.1=j
     · rw [qbI (p:=(p.1,y)) e,qbI e,Option.map_some,if_pos (e.symm.trans h)]
     · rw [qbJ (p:=(p.1,y)) e,qbJ e,ih]
   · rw [if_neg h]
     by_cases e:p.1=j
     · rw [qbI (p:=p) e,qbI e,Option.map_some,if_neg (fun z=>h (e.trans z))]
     · rw [qbJ (p:=p) e,qbJ e,ih]
theorem qhM (k j:κ) (y:V):∀kvs:List (κ×V),qdr kvs k=none→qdr (kvs++[(k,y)]) j=if j=k then some y else qdr kvs j
 | [],_=>by
   by_cases e:k=j
   · rw [if_pos e.symm];exact qbI (p:=(k,y)) e
   · rw [if_neg (fun z=>e z.symm)];exact qbJ (p:=(k,y)) e
 | p::r,hn=>by
   rw [List.cons_append]
   have hk:¬p.1=k:=fun z=>by rw [qbI z] at hn;cases hn
   rw [qbJ hk] at hn
   have ih:=qhM k j y r hn
   by_cases e:p.1=j
   · rw [qbI e,qbI e,if_neg (fun z=>hk (e.trans z))]
   · rw [qbJ e,qbJ e,ih]
theorem qna (kvs:List (κ×V)) (k j:κ) (y:V):qdr (qil kvs k y) j=if j=k then some y else qdr kvs j:=by
 unfold qil
 by_cases a:(kvs.any fun kv=>decide (kv.1=k))=true
 · rw [if_pos a,qi7]
   rw [qd5] at a
   by_cases e:j=k
   · obtain ⟨x,hx⟩:=Option.isSome_iff_exists.mp a
     rw [if_pos e,e,hx,Option.map_some,if_pos rfl]
   · rw [if_neg e]
     cases qdr kvs j with
     | none=>rfl
     | some x=>rw [Option.map_some,if_neg e]
 · rw [if_neg a]
   refine qhM k j y kvs ?_
   rw [qd5] at a
   cases q:qdr kvs k with
   | none=>rfl
   | some x=>rw [q] at a;exact (a rfl).elim
theorem qft (kvs:List (κ×V)) (k:κ) (v:V):(qil kvs k v).length≤kvs.length+1:=by
 unfold qil
 split
 · rw [List.length_map];omega
 · rw [List.length_append,List.length_cons,List.length_nil];omega
theorem qhN.isSome_eq {o:Option V} {u:Option Value} (r:qhN o u):o.isSome=u.isSome:=by
 cases o with
 | none=>cases u with
   | none=>rfl
   | some _=>exact (show False from r).elim
 | some _=>cases u with
   | none=>exact (show False from r).elim
   | some _=>rfl
theorem KV.val {kvs:List (κ×V)} {vs:List (κ×Value)} (r:KV kvs vs) (k:κ):qhN (qdr kvs k) (valueAt vs k):=by
 unfold KV at r
 induction r with
 | nil=>exact True.intro
 | @cons p q ps qs h t ih =>
   obtain ⟨h1,h2⟩:=h
   by_cases e:p.1=k
   · have e':q.1=k:=h1.symm.trans e
     have b:valueAt (q::qs) k=some q.2:=by simp [valueAt,List.find?_cons,e']
     rw [qbI e,b];exact h2
   · have e':¬q.1=k:=fun z=>e (h1.trans z)
     have b:valueAt (q::qs) k=valueAt qs k:=by simp [valueAt,List.find?_cons,e']
     rw [qbJ e,b];exact ih
theorem KV.any {kvs:List (κ×V)} {vs:List (κ×Value)} (r:KV kvs vs) (k:κ):(kvs.any fun kv=>decide (kv.1=k))=vs.any fun kv=>decide (kv.1=k):=by
 unfold KV at r
 induction r with
 | nil=>rfl
 | cons h t ih=>rw [List.any_cons,List.any_cons,ih,h.1]
theorem KV.repl {kvs:List (κ×V)} {vs:List (κ×Value)} (r:KV kvs vs) (k:κ) {y:V} {u:Value} (ry:qbE y u) :
   KV (kvs.map fun kv=>if kv.1=k then (kv.1,y) else kv) (vs.map fun kv=>if kv.1=k then (kv.1,u) else kv):=by
 unfold KV at r ⊢
 induction r with
 | nil=>exact .nil
 | @cons p q ps qs h t ih =>
   rw [List.map_cons,List.map_cons]
   refine .cons ?_ ih
   obtain ⟨h1,h2⟩:=h
   by_cases e:p.1=k
   · rw [if_pos e,if_pos (h1.symm.trans e)];exact ⟨h1,ry⟩
   · rw [if_neg e,if_neg (fun z=>e (h1.trans z))];exact ⟨h1,h2⟩
theorem KV.put {kvs:List (κ×V)} {vs:List (κ×Value)} (r:KV kvs vs) (k:κ) {y:V} {u:Value} (ry:qbE y u):KV (qil kvs k y) (stored vs k u):=by
 unfold qil stored
 rw [r.any k]
 by_cases e:(vs.any fun kv=>decide (kv.1=k))=true
 · rw [if_pos e,if_pos e];exact r.repl k ry
 · rw [if_neg e,if_neg e];exact Paired.snoc r ⟨rfl,ry⟩
theorem KV.length {kvs:List (κ×V)} {vs:List (κ×Value)} (r:KV kvs vs):kvs.length=vs.length:=Paired.length r
end
theorem qjI {P:Program} {w:World} {k:Key} {u:Value} (r:qbE (kV k) u):(qbc P w).is k u=true:=by
 cases k with
 | inl i=>obtain ⟨t,e⟩:=(show ∃t,u=Value.int i t from r);subst e;exact qiD P w i t
 | inr x=>obtain ⟨t,e⟩:=(show ∃t,u=Value.str x t from r);subst e;exact qiY P w x t
theorem qib {P:Program} {w:World}:∀{ks:List Key} {us:List Value},qbd (ks.map kV) us→ItemsAre (qbc P w) ks us
 | [],_,r=>by rw [List.map_nil] at r;cases r;exact .nil
 | k::ks,_,r=>by
   rw [List.map_cons] at r
   cases r with
   | cons h t=>exact .cons (qjI h) (qib t)
abbrev KT (H:Hp):List (List Key×V)→List (List Key×Addr×Value)→Prop:=Paired fun p q=>p.1=q.1∧H q.2.1=some (.tup (p.1.map kV))∧qbE p.2 q.2.2
theorem KT.val {H:Hp} {kvs:List (List Key×V)} {xs:List (List Key×Addr×Value)} (r:KT H kvs xs) (k:List Key):qhN (qdr kvs k) ((atKey xs k).map (·.2)):=by
 induction r with
 | nil=>exact True.intro
 | @cons p q ps qs h t ih =>
   obtain ⟨h1,_,h2⟩:=h
   by_cases e:p.1=k
   · have e':q.1=k:=h1.symm.trans e
     have b:atKey (q::qs) k=some q.2:=by simp [atKey,List.find?_cons,e']
     rw [qbI e,b];exact h2
   · have e':¬q.1=k:=fun z=>e (h1.trans z)
     have b:atKey (q::qs) k=atKey qs k:=by simp [atKey,List.find?_cons,e']
     rw [qbJ e,b];exact ih
theorem KT.repl {H:Hp} {kvs:List (List Key×V)} {xs:List (List Key×Addr×Value)} (r:KT H kvs xs) (k:List Key) {y:V} {u:Value} (ry:qbE y u) :
   KT H (kvs.map fun kv=>if kv.1=k then (kv.1,y) else kv) (xs.map (putAt k u)):=by
 induction r with
 | nil=>exact .nil
 | @cons p q ps qs h t ih =>
   rw [List.map_cons,List.map_cons]
   refine .cons ?_ ih
   obtain ⟨h1,h2,h3⟩:=h
   unfold putAt
   by_cases e:p.1=k
   · rw [if_pos e,if_pos (h1.symm.trans e)];exact ⟨h1,h2,ry⟩
   · rw [if_neg e,if_neg (fun z=>e (h1.trans z))];exact ⟨h1,h2,h3⟩
theorem KT.put {H:Hp} {kvs:List (List Key×V)} {xs:List (List Key×Addr×Value)} (r:KT H kvs xs) (k:List Key) {b:Addr} {y:V} {u:Value} (hb:H b=some (.tup (k.map kV))) (ry:qbE y u) :
   KT H (qil kvs k y) (storedH xs k b u):=by
 have e:(kvs.any fun kv=>decide (kv.1=k))=(atKey xs k).isSome:=by
   rw [qd5,(r.val k).isSome_eq,Option.isSome_map]
 unfold qil storedH
 rw [e]
 by_cases q:(atKey xs k).isSome=true
 · rw [if_pos q,if_pos q];exact r.repl k ry
 · rw [if_neg q,if_neg q];exact Paired.snoc r ⟨rfl,hb,ry⟩
theorem KT.keeps {H H':Hp} {kvs:List (List Key×V)} {xs:List (List Key×Addr×Value)} (r:KT H kvs xs) (ht:∀b ys,H b=some (.tup ys)→H' b=some (.tup ys)):KT H' kvs xs :=
 Paired.mapP r fun _ _ z=>⟨z.1,ht _ _ z.2.1,z.2.2⟩
section
variable {P:Program} {w:World} {H:Hp} {h:Heap} {a:Addr}
theorem qqX {u:HO} (ok:HOk P w H h) (e:Rd H a u):qbU P w H h a u:=e.ok ok
theorem ql5 {kvs:List (Key×V)} (ok:HOk P w H h) (e:Rd H a (.dK kvs)):kvs.length≤sizeLine∧(a==sysModules)=false∧∃vs,KV kvs vs∧h.DictOf (qbc P w) a vs :=
 show qbU P w H h a (.dK kvs) from qqX ok e
theorem qrn {kvs:List (Key×V)} (ok:HOk P w H h) (e:H a=some (.dK kvs)):kvs.length≤sizeLine∧(a==sysModules)=false∧∃vs,KV kvs vs∧h.DictOf (qbc P w) a vs:=ql5 ok (.inl e)
theorem qjf {ks:List Key} (ok:HOk P w H h) (e:H a=some (.tup (ks.map kV))):(tupleKind (qbc P w)).is h ks a:=by
 obtain ⟨_,its,r,o,h1,h2,n,h3⟩:=(show qbU P w H h a (.tup (ks.map kV)) from ok a _ e)
 exact ⟨o,its.toArray,n,h1,h2,h3,by simpa using qib r⟩
theorem qms {kvs:List (List Key×V)} (ok:HOk P w H h) (e:Rd H a (.dT kvs)):kvs.length≤sizeLine∧(a==sysModules)=false ∧
   ∃xs,KT H kvs xs∧h.DictOfH (tupleKind (qbc P w)) a xs:=by
 obtain ⟨z,y,xs,r,o,es,ep,h1,h2,h3,h4,h5⟩:=(show qbU P w H h a (.dT kvs) from qqX ok e)
 refine ⟨z,y,xs,r,o,es,ep,h1,h2,h3,h4,fun x hx=>?_,h5⟩
 have all:∀{l:List (List Key×V)} {m:List (List Key×Addr×Value)},KT H l m→∀x∈m,(tupleKind (qbc P w)).is h x.1 x.2.1:=by
   intro l m q
   induction q with
   | nil=>intro x hx;exact nomatch hx
   | @cons p q ps qs hq t ih =>
     intro x hx
     rcases List.mem_cons.mp hx with e | hx
     · subst e
       exact qjf ok (by rw [←hq.1];exact hq.2.1)
     · exact ih x hx
 exact all r x hx
theorem qr0 {kvs:List (List Key×V)} (ok:HOk P w H h) (e:H a=some (.dT kvs)):kvs.length≤sizeLine∧(a==sysModules)=false ∧
 ∃xs,KT H kvs xs∧h.DictOfH (tupleKind (qbc P w)) a xs:=qms ok (.inl e)
end
def qke (H:Hp) (a:Addr) (y:V) (r:Option V):Prop :=
 (∃kvs k,Rd H a (.dK kvs)∧y=kV k∧r=qdr kvs k)∨∃kvs k b,Rd H a (.dT kvs)∧y = .ref b∧H b=some (.tup (k.map kV))∧r=qdr kvs k
def qpy (H:Hp) (a:Addr) (y v:V) (H':Hp):Prop :=
 (∃kvs k,H a=some (.dK kvs)∧y=kV k∧kvs.length<sizeLine∧H'=upd H a (.dK (qil kvs k v))) ∨
 ∃kvs k b,H a=some (.dT kvs)∧y = .ref b∧H b=some (.tup (k.map kV))∧kvs.length<sizeLine∧H'=upd H a (.dT (qil kvs k v))
theorem qke.k {H:Hp} {a:Addr} {kvs:List (Key×V)} {k:Key} (e:H a=some (.dK kvs)):qke H a (kV k) (qdr kvs k) := .inl ⟨kvs,k,.inl e,rfl,rfl⟩
theorem qpy.k {H:Hp} {a:Addr} {kvs:List (Key×V)} {k:Key} {v:V} (e:H a=some (.dK kvs)) (hl:kvs.length<sizeLine):qpy H a (kV k) v (upd H a (.dK (qil kvs k v))) := .inl ⟨kvs,k,e,rfl,hl,rfl⟩
section
variable {X:Cx} {pins:List (Addr×Obj)} {σ:St} {H:Hp} {s:Shared} {a:Addr} {y v:V} {u r:Value} {o:Option V} {A:Around} {E:Value→Shared→Prop}
theorem Inv.big (I:Inv X pins σ H s):sysModules<s.heap.objs.size:=by
 have h:mainGlobals<s.heap.objs.size:=(I.mod.glob.keeps I.bk).lt
 exact Nat.lt_trans (by decide) h
theorem qlb {Q:Value→Shared→Prop} (hu:A.units+1<cLine) (I:Inv X pins σ H s) (g:qke H a y (some v)) (ry:qbE y u) (h:∀w' s',Inv X pins σ H s'→qbE v w'→Q w' s') :
   wpAny (model X.prog X.w) A (getItem (.ref a) u) Q E s:=by
 rcases g with ⟨kvs,k,e,ey,l⟩ | ⟨kvs,k,b,e,ey,eb,l⟩
 · subst ey
   obtain ⟨z,hd,vs,rel,dd⟩:=ql5 I.hok e
   obtain ⟨w',hw,rw'⟩:=qhN.some_of (v:=v) (o:=valueAt vs k) (by rw [l];exact rel.val k)
   exact wpAny_getItem_of (qjI ry) dd.mapOf hw (h w' _ (I.tok _) rw')
 · subst ey
   cases (show u=Value.ref b from ry)
   obtain ⟨z,hd,xs,rel,dd⟩:=qms I.hok e
   obtain ⟨w',hw,rw'⟩:=qhN.some_of (v:=v) (o:=(atKey xs k).map (·.2)) (by rw [l];exact rel.val k)
   obtain ⟨p,hp,hp2⟩:=Option.map_eq_some_iff.mp hw
   refine wpAny_getItem_heap (tupleKind_room_in1 hu) (qjf I.hok eb) dd hp ?_
   rw [hp2]
   exact h w' _ (I.tok _) rw'
theorem qob {Q:Value→Shared→Prop} (hu:A.units+1<cLine) (I:Inv X pins σ H s) (g:qke H a y o) (ry:qbE y u) (h:∀s',Inv X pins σ H s'→Q (.bool (!o.isSome)) s') :
   wpAny (model X.prog X.w) A (compareOp .NotIn u (.ref a)) Q E s:=by
 rcases g with ⟨kvs,k,e,ey,l⟩ | ⟨kvs,k,b,e,ey,eb,l⟩
 · subst ey
   obtain ⟨z,hd,vs,rel,dd⟩:=ql5 I.hok e
   refine wpAny_notIn_of (qjI ry) hd dd.mapOf ?_
   rw [←(rel.val k).isSome_eq,←l]
   exact h _ (I.tok _)
 · subst ey
   cases (show u=Value.ref b from ry)
   obtain ⟨z,hd,xs,rel,dd⟩:=qms I.hok e
   refine wpAny_notIn_heap (tupleKind_room_in1 hu) (qjf I.hok eb) hd dd ?_
   have q:=(rel.val k).isSome_eq
   rw [Option.isSome_map] at q
   rw [←q,←l]
   exact h _ (I.tok _)
theorem qlF {h':Heap} {t':Nat} {ob:HO} (I:Inv X pins σ H s) (mu:Mut (H a)) (hs:Heap.SameBut a s.heap h') (he:∃q,h'.get? a=some q) (new:qbU X.prog X.w (upd H a ob) h' a ob) :
   Inv X pins σ (upd H a ob) { s with heap:=h',toks:=t' } :=
 I.write (x:=a) (e:=a) mu (.inl rfl) (fun b q hb z=>(hs.2 b hb).trans z) he new
theorem qpS {P:Program} {w:World} {H':Hp} {h':Heap} {kvs:List (Key×V)} {vs:List (Key×Value)} (z:kvs.length≤sizeLine) (hd:(a==sysModules)=false) (rel:KV kvs vs) (dd:h'.DictOf (qbc P w) a vs) :
 qbU P w H' h' a (.dK kvs):=⟨z,hd,vs,rel,dd⟩
theorem qkH {H':Hp} {Q:Unit→Shared→Prop} (hu:A.units+1<cLine) (I:Inv X pins σ H s) (g:qpy H a y v H') (ry:qbE y u) (rv:qbE v r) (h:∀s',Inv X pins σ H' s'→Q () s') :
   wpAny (model X.prog X.w) A (setItem (.ref a) u r) Q E s:=by
 rcases g with ⟨kvs,k,e,ey,l,eH⟩ | ⟨kvs,k,b,e,ey,eb,l,eH⟩
 · subst ey eH
   obtain ⟨z,hd,vs,rel,dd⟩:=qrn I.hok e
   have hz:vs.length≤sizeLine:=by rw [←rel.length];exact z
   have hl:(qil kvs k v).length≤sizeLine:=by have:=qft kvs k v;omega
   refine wpAny_setItem_pairs (hsz:=hz) (qjI ry) dd fun h' dd' hs=>h _ ?_
   have he:∃q,h'.get? a=some q:=let ⟨q,_,_,hq,_⟩:=dd';⟨q,hq⟩
   exact qlF I (by rw [e];exact True.intro) hs he (qpS hl hd (rel.put k rv) dd')
 · subst ey eH
   cases (show u=Value.ref b from ry)
   obtain ⟨z,hd,xs,rel,dd⟩:=qr0 I.hok e
   have hz:xs.length≤sizeLine:=by rw [←Paired.length rel];exact z
   have hl:(qil kvs k v).length≤sizeLine:=by have:=qft kvs k v;omega
   refine wpAny_setItem_heap (hsz:=hz) (tupleKind_room_in1 hu) (qjf I.hok eb) dd fun h' dd' hs=>h _ ?_
   obtain ⟨q,es,ep,hq,h2,h3,h4,_,h5⟩:=dd'
   refine qlF I (by rw [e];exact True.intro) hs ⟨q,hq⟩ ⟨hl,hd,_,(rel.put k eb rv).keeps fun c ys ec=>?_,q,es,ep,hq,h2,h3,h4,h5⟩
   rw [qaz (qrm ec e (fun z=>nomatch z))]
   exact ec
end
section
variable {X:Cx} {pins:List (Addr×Obj)} {σ:St} {H:Hp} {s:Shared} {a:Addr} {kvs:List (Key×V)} {k:Key} {u:Value} {A:Around} {E:Value→Shared→Prop}
end
def qrF (i:Expr):Prop:=∀ov iv,subscripted i false ov iv=operate [ov,iv] (getItem ov iv)
theorem qlz {prog:Program} {w:World} {A:Around} {E:Value→Shared→Prop} {s:Shared} {env:Env} {value slice:Expr} {pos:Pos} {T id:String} {Q:Value→Shared→Prop}
   (hl:typeLookup (.type T) "__getitem__" = pure (some (.builtin id))) (hs:qrF slice)
   (h:wpAny (model prog w) A (eval value env) (fun o s₁=>wpAny (model prog w) A (eval slice env) (fun i s₂=>s₂.TypeIs o T∧wpAny (model prog w) A (getItem o i) Q E s₂) E s₁) E s) :
   wpAny (model prog w) A (eval (.Subscript value slice pos) env) Q E s:=by
 refine Subscript_ (wpAny_mono h (fun o s₁ h₁=>wpAny_mono h₁ (fun i s₂ h₂=>?_) fun _ _ x=>x) fun _ _ x=>x)
 obtain ⟨hT,h₂⟩:=h₂
 unfold subscriptTail
 refine wpAny_bind ?_
 rw [getitemInPython_of_ne hT.not_modules]
 refine wpAny_bind (wpAny_specialOf hT hl ?_)
 have fin:wpAny (model prog w) A (subscripted slice false o i) (fun r s₃=>wpAny (model prog w) A (letTemporaryGo value o r >>= fun _=>pure r) Q E s₃) E s₂:=by
   rw [hs o i]
   exact wpAny_operating (wpAny_mono h₂ (fun r s₃ h₃=>wpAny_bind (wpAny_letTemporaryGo (wpAny_pure h₃))) fun _ _ x=>x)
 first
   | exact wpAny_pure (wpAny_bind fin)
   | exact wpAny_bind (wpAny_pure (wpAny_bind fin))
   | exact wpAny_bind fin
theorem qiI {X:Cx} {pins:List (Addr×Obj)} {σ:St} {H:Hp} {s:Shared} {a:Addr} {y:V} {o:Option V} (I:Inv X pins σ H s) (g:qke H a y o):s.TypeIs (.ref a) "dict" := by
 rcases g with ⟨kvs,k,e,_,_⟩ | ⟨kvs,k,b,e,_,_,_⟩
 · obtain ⟨_,_,vs,_,dd⟩:=ql5 I.hok e
   exact dd.typeIs
 · obtain ⟨_,_,xs,_,dd⟩:=qms I.hok e
   exact dd.typeIs
def qqO (td ty:TE):TE:=fun σ H Q=>td σ H fun x H1=>ty σ H1 fun y H2=>∃a v,x = .ref a∧qke H2 a y (some v)∧Q v H2
def qsA (ty td:TE):TE:=fun σ H Q=>ty σ H fun y H1=>td σ H1 fun x H2=>∃a o,x = .ref a∧qke H2 a y o∧Q (.bl o.isSome) H2
def qlN (ty td:TE):TE:=fun σ H Q=>ty σ H fun y H1=>td σ H1 fun x H2=>∃a o,x = .ref a∧qke H2 a y o∧Q (.bl (!o.isSome)) H2
def qoo (td ty tv:TE):TS:=fun D σ H=>tv σ H fun v H1=>td σ H1 fun x H2=>ty σ H2 fun y H3=>∃a H4,x = .ref a∧qpy H3 a y v H4∧D.nx σ H4
section
variable {X:Cx} {o i e value:Expr} {pos pos' tpos:Pos} {td ty tv:TE}
theorem qow (hu:X.A.units+1<cLine) (ho:PE X o td) (hi:PE X i ty) (hs:qrF i):PE X (.Subscript o i pos) (qqO td ty):=by
 intro pins s σ H Q I h
 refine qlz PySem.F.slot_dict_getitem.lookup hs (thn (ho pins s σ H _ I h) fun u s1 ⟨x,H1,I1,rx,q1⟩=>thn (hi pins s1 σ H1 _ I1 q1) fun iv s2 ⟨y,H2,I2,ry,a,v,ex,g,q2⟩=>?_)
 subst ex
 obtain rfl:u=Value.ref a:=rx
 exact ⟨qiI I2 g,qlb hu I2 g ry fun w' s3 I3 rw'=>⟨v,H2,I3,rw',q2⟩⟩
theorem qht (hu:X.A.units+1<cLine) (hi:PE X i ty) (ho:PE X o td):PC X .NotIn i o (qlN ty td):=by
 intro pins s σ H Q I h
 refine thn (hi pins s σ H _ I h) fun iv s1 ⟨y,H1,I1,ry,q1⟩=>thn (ho pins s1 σ H1 _ I1 q1) fun u s2 ⟨x,H2,I2,rx,a,ov,ex,g,q2⟩=>?_
 subst ex
 obtain rfl:u=Value.ref a:=rx
 exact qob hu I2 g ry fun s3 I3=>⟨.bl (!ov.isSome),H2,I3,rfl,q2⟩
theorem qpd (hu:X.A.units+1<cLine) (ho:PE X o td) (hi:PE X i ty) (hv:PE X value tv) (hs:swapsWith value (some (.Subscript o i pos')) pos.line X.env=pure false) :
   PS X (.Assign [.Subscript o i pos'] value pos) (qoo td ty tv):=by
 intro pins s σ H D I h
 refine wpAny_Assign_Subscript (thn (hv pins s σ H _ I h) fun r s1 ⟨v,H1,I1,rv,q1⟩=>thn (ho pins s1 σ H1 _ I1 q1) fun u s2 ⟨x,H2,I2,rx,q2⟩=>thn (hi pins s2 σ H2 _ I2 q2) fun iv s3 ⟨y,H3,I3,ry,a,H4,ex,g,q3⟩=>?_) hs
 subst ex
 obtain rfl:u=Value.ref a:=rx
 exact qkH hu I3 g ry rv fun s4 I4=>⟨σ,H4,I4,q3⟩
end
theorem qmY {P:Program} {w:World} {H:Hp} (h:Heap) (hb:sysModules<h.objs.size):qbU P w H (h.push { cls := .type "dict",data := .dict #[] }) h.objs.size (.dK []) :=
 ⟨Nat.zero_le _,beq_eq_false_iff_ne.mpr (Ne.symm (Nat.ne_of_lt hb)),[],.nil,Heap.DictOf.new h⟩
def qnM:TE:=fun _ H Q=>∀p,H p=none→Q (.ref p) (upd H p (.dK []))
section
variable {X:Cx} {pos:Pos}
theorem qmz:PE X (.Dict [] [] pos) qnM:=fun pins s σ H Q I h =>
 wpAny_Dict_empty ⟨.ref s.heap.objs.size,_,I.laid (a:=s.heap.objs.size) (o := .dK []) (t':=s.toks) (fun _ _ q=>Heap.get?_push_of_some _ q) (Nat.le_refl _) (qmY s.heap I.big),rfl,h _ (I.hok.fresh (Nat.le_refl _))⟩
end
structure M1 (X:Cx) (o:Expr) (m:Str) (apos:Pos) (e:Expr) (cpos:Pos):Prop where
 base:attributeBase o m X.env (eval o X.env)=eval o X.env
 few:((backTo cpos (starEach [e] X.env)).all (fun x=>!x.1)&&(backToKw cpos (keywordEach [] X.env)).all (fun x=>x.1.isSome)
   && decide (([e]:List Expr).length+([]:List Keyword).length+(if ([]:List Keyword).isEmpty then 0 else 1)<30))=true
 line:(apos.endLine==cpos.line)=true
 trees:backTo cpos (starEach [e] X.env)=[(false,eval e X.env)]
structure M2 (X:Cx) (o:Expr) (m:Str) (apos:Pos) (e f:Expr) (cpos:Pos):Prop where
 base:attributeBase o m X.env (eval o X.env)=eval o X.env
 few:((backTo cpos (starEach [e,f] X.env)).all (fun x=>!x.1)&&(backToKw cpos (keywordEach [] X.env)).all (fun x=>x.1.isSome)
   && decide (([e,f]:List Expr).length+([]:List Keyword).length+(if ([]:List Keyword).isEmpty then 0 else 1)<30))=true
 line:(apos.endLine==cpos.line)=true
 trees:backTo cpos (starEach [e,f] X.env)=[(false,eval e X.env),(false,eval f X.env)]
section
variable {X:Cx} {pins:List (Addr×Obj)} {σ:St} {H:Hp} {s:Shared} {a:Addr} {y d:V} {u r:Value} {o:Option V} {A:Around} {E:Value→Shared→Prop}
end
section
variable {X:Cx} {o e f:Expr} {apos cpos:Pos} {td ty tx:TE}
end
section
variable {X:Cx} {pins:List (Addr×Obj)} {σ:St} {H:Hp} {s:Shared} {a:Addr} {kvs:List (Key×V)} {A:Around} {E:Value→Shared→Prop}
end
section
variable {X:Cx} {pins:List (Addr×Obj)} {σ:St} {H:Hp} {s:Shared} {a:Addr} {y:V} {u:Value} {A:Around} {E:Value→Shared→Prop}
end
end L2
namespace Att
open PySem PySem.W PySem.Calls PyProof.Rows
theorem qe5 {P:Params} {h:Heap}:∀(ns:List Int) (vs:List Value),WellAll P h vs (ns.map WData.int)→IntsAre vs ns:=by
 intro ns
 induction ns with
 | nil =>
   intro vs w
   rw [List.map_nil] at w
   cases w
   exact .nil
 | cons n ns ih =>
   intro vs w
   rw [List.map_cons] at w
   cases w with
   | cons a b =>
     cases a
     exact .cons _ _ (ih _ b)
theorem qkR {l:OpenLaw} {n:Nat} (hn:l.most=some n) {P:Params} {h:Heap} {args:List WData} {vals:List Value}
   (hpre:l.row.toRowW.claim.pre args=true) (hwl:WellAll P h vals args) :
   ∃a vs ns,vals=[Value.ref a]∧args=[WData.list (ns.map WData.int)]∧h.get? a=some { cls := .type "list",data := .seq vs.toArray }∧IntsAre vs ns∧ns.length≤n:=by
 have hsh:WShape.hasAll [] args [.list .int]=true:=(pre_splitW hpre).1
 have hc:l.pre.holds [] { args:=args }=true:=(pre_splitW hpre).2
 obtain ⟨d,r,rfl,h1,h2⟩:=hasAllW_cons hsh
 obtain rfl:=hasAllW_nil h2
 obtain ⟨xs,rfl,h3⟩:=hasW_list h1
 obtain ⟨ns,rfl⟩:=items_int h3
 have hlen:ns.length≤n:=by
   unfold OpenLaw.pre at hc
   have h4:(WTm.not (.lt (.lit (.int (n:Int))) (.len (.arg 0)))).holds [] { args:=[.list (ns.map .int)] }=true:=by
     have h4:=(holds_andW hc).1
     rw [hn] at h4
     exact h4
   have h5:=condW_of h4 (w_not (w_lt w_lit (w_len_list (w_arg rfl))))
   rw [List.length_map] at h5
   refine Nat.le_of_not_lt fun q=>?_
   have q':(n:Int)<((ns.length:Nat):Int):=by omega
   first
     | (rw [decide_eq_true q'] at h5;exact absurd h5 (by decide))
     | (simp at h5;omega)
 cases hwl with
 | cons w1 w2 =>
   cases w2
   cases w1 with
   | list ho hall=>exact ⟨_,_,ns,rfl,rfl,ho,qe5 ns _ hall,hlen⟩
theorem qlt (l:OpenLaw) (args:List WData):l.row.toRowW.claim.post args (.bool true) args=true :=
 postW_of (r:=l.row.toRowW) (X:=(true==true))
   (show WShape.has [] (.bool true) .bool=true by first | rfl | decide | simp [WShape.has,WShape.arms,WShape.armsAll])
   (show (WTm.eq .res (.lit (.bool true))).value [] { args:=args,res:=some (.bool true),after:=args }=some (.bool (true==true)) from w_eq_bool (w_res rfl) w_lit) rfl
theorem attach_call {l:OpenLaw} {n:Nat} {q:Program} {loose:List Str} {XP:(Str→Option Value)→Heap→Prop} {YP:World→Heap→Prop} {d:DefRec}
   (hn:l.most=some n) (hdf:d.params.defaults=[])
   (call:∀(w:World) (s₀ s₁:Shared) (mg mb:Str→Option Value) (fa:Addr) (o:Obj) (pm cd doc:Value) (a:Addr) (vs:List Value) (ns:List Int),
     Ground q loose [] XP w s₀ mg mb s₁.heap→YP w s₁.heap →
     s₁.heap.get? fa=some o→o.data = .func (docDef d.name d.params d.body d.scope pm cd doc)→s₁.heap.CodeRec cd d.name→mg d.name=some (.ref fa) →
     s₁.heap.get? a=some { cls := .type "list",data := .seq vs.toArray }→IntsAre vs ns→ns.length≤n→s₁.gens = #[] →
     codeAny (model l.prog w) callerA (.call (.ref fa) ⟨[.ref a],[]⟩) (fun r s'=>r = .ok (.ret (.bool true))∧OldK s₁.heap s'.heap∧s'.os=s₁.os∧AllBare s'.gens) s₁) :
   WalkO q loose XP YP l.row.toRowW d [] (fun f vs=>PySem.call f vs):=by
 intro w s₀ s₁ mg mb G Y fa o pm cd doc dV kV ho hd hcd hD hmg hg args vals as hpre hlay hrd hwl hlo
 obtain rfl:dV = .none:=Dflts.none hD hdf
 obtain rfl:kV = .none:=Dflts.noKw hD
 obtain ⟨a,vs,ns,rfl,rfl,hobj,hints,hlen⟩:=qkR hn hpre hwl
 refine enter_call (codeAny_mono (call w s₀ s₁ mg mb fa o pm cd doc a vs ns G Y ho (fd_plain hd) hcd hmg hobj hints hlen hg) fun r s' hq=>?_)
 obtain ⟨rfl,h2,h3,h4⟩:=hq
 exact ⟨.inl ⟨.bool true,.bool true,[],rfl,fun _=>rfl,.bool true,qlt l _,fun _=>⟨List.Pairwise.nil,fun _ hm=>(nomatch hm)⟩⟩,h2,h3,h4⟩
section
variable {prog:Program} {w:World} {A:Around} {E:Value→Shared→Prop} {s:Shared} {K:Frag}
end
end Att
namespace L2
open PySem PySem.Spec PyProof.Rows
theorem qdH:∀{vs:List Value} {ns:List Int},IntsAre vs ns→qbd (ns.map V.int) vs
 | _,_,.nil => .nil
 | _,_,.cons n t h => .cons ⟨t,rfl⟩ (qdH h)
def qrl (H:Hp):Prop:=∀b,H b=none∨∃o xs,H b=some (.frz o (.lst xs))
theorem ql7 {P:Program} {w:World} {K:PySem.W.Frag} {mg mb:Str→Option Value} {CX:CXT} {k:Nat} {fa a:Addr} {fd:FuncData} {x:Str} {sp:Sp} {s₁:Shared} {vs:List Value} {ns:List Int}
   (KX:K.In s₁.heap) (hns:s₁.heap.Ns mainGlobals mg) (hb:s₁.heap.Ns builtinsNs mb) (hbb:∀x:Str,x ≠ "__name__" → mb x=bootBuiltins x) (hlim:s₁.heap.NoLimit) (hg:s₁.gens = #[])
   (ha:s₁.heap.get? a=some { cls := .type "list",data := .seq vs.toArray }) (hi:IntsAre vs ns) (hl:ns.length≤sizeLine) (hr:qd3 k callerA)
   (F:∀base:Heap,K.In base→base.Ns mainGlobals mg→qaZ P w K mg base CX k fa fd [x] sp) (hbind:∀(s:Shared) (u:Value),BindsTo s fd ⟨[u],[]⟩ [(x,u)])
   (hsp:∀H:Hp,qrl H→SqL K H a (ns.map V.int)→sp [.ref a] H (fun v _=>v = .bl true) fun _ _ _=>False)
   (hCX:∀H e s',CX [] H s₁ (fun _ _ _=>False) e s'→False) :
   codeAny (model P w) callerA (.call (.ref fa) ⟨[.ref a],[]⟩) (fun r s'=>r = .ok (.ret (.bool true))∧OldK s₁.heap s'.heap∧s'.os=s₁.os∧AllBare s'.gens) s₁:=by
 have rv:=qdH hi
 have lenV:=hi.length
 -- from an abstract heap in which nothing but the script may be tracked
 have core:∀H:Hp,qrl H→SqL K H a (ns.map V.int)→HOk P w H s₁.heap→(∀b,H b≠none→b=a)→(H a≠none→K.lookup a=none) →
     codeAny (model P w) callerA (.call (.ref fa) ⟨[.ref a],[]⟩) (fun r s'=>r = .ok (.ret (.bool true))∧OldK s₁.heap s'.heap∧s'.os=s₁.os∧AllBare s'.gens) s₁:=by
   intro H hO hS hok hA hK
   have base_of:∀{b:Addr} {o:Obj},s₁.heap.get? b=some o→H b=none→(qmh s₁.heap H).get? b=some o:=fun e n=>qm1 e n
   have noA:∀{b:Addr} {o:Obj} {es:Array DictEntry} {ep:Nat},s₁.heap.get? b=some o→o.data = .dict es ep→H b=none:=fun {b o es ep} e d=>by
     cases q:H b with
     | none=>rfl
     | some u =>
       have e':b=a:=hA b (by rw [q];simp)
       subst e'
       rw [ha] at e;cases e
       have d':Data.seq vs.toArray _=Data.dict es ep:=d
       cases d'
   have nsK:∀{b:Addr} {m:Str→Option Value},s₁.heap.Ns b m→(qmh s₁.heap H).Ns b m:=fun {b m} ⟨o,es,ep,e,d,r⟩=>⟨o,es,ep,base_of e (noA e d),d,r⟩
   have hKb:K.In (qmh s₁.heap H):=fun b o e=>base_of (KX b o e) (by
     cases q:H b with
     | none=>rfl
     | some u =>
       have e':b=a:=hA b (by rw [q];simp)
       subst e'
       rw [hK (by rw [q];simp)] at e;cases e)
   have hM:Mod K mg (qmh s₁.heap H):=⟨hKb,nsK hns,⟨mb,nsK hb,hbb⟩,let ⟨mc,h1,h2⟩:=hlim;⟨mc,nsK h1,h2⟩⟩
   have e0:qn1 P w K mg (qmh s₁.heap H) callerA [] s₁ H:=⟨rfl,hM,fun b o e=>qn5 e,Nat.le_of_eq (qki _ _),trivial,fun b hb=>absurd (show b∈([]:List Addr) from hb) (by simp),hok,.of_eq hg⟩
   refine codeAny_mono ((F _ hKb (nsK hns)).run callerA [] s₁ H ⟨[.ref a],[]⟩ [.ref a] [.ref a] _ _ hr e0 (hbind s₁ (.ref a)) (.cons rfl .nil) (hsp H hO hS)) fun r s' h=>?_
   cases r with
   | error e=>exact (hCX H e s' h).elim
   | ok fl =>
     cases fl with
     | next=>exact False.elim h
     | brk=>exact False.elim h
     | cont=>exact False.elim h
     | ret u =>
       obtain ⟨v,H',os,bare,un,hok',r',q⟩:=h
       have q':v = .bl true:=q
       subst q'
       obtain rfl:u=Value.bool true:=r'
       refine ⟨rfl,OldK.of_keep fun b o e=>?_,os,bare⟩
       cases q:H b with
       | none=>exact un.keep b o e q (by intro z;exact absurd (show b∈([]:List Addr) from z) (by simp)) (by simp)
       | some u =>
         rcases hO b with z | ⟨ob,xs,z⟩
         · rw [q] at z;cases z
         · have z2:=un.frzs b ob _ z
           obtain ⟨e1,_⟩:=hok b _ z
           obtain ⟨e2,_⟩:=hok' b _ z2
           rw [e] at e1;cases e1
           exact e2
 cases hk:K.lookup a with
 | some o =>
   -- the script is one of the module's own objects
   have e:=KX a o hk
   rw [ha] at e
   cases e
   refine core (fun _=>none) (fun _ => .inl rfl) (.inr ⟨_,vs.toArray,_,hk,rfl,rfl,rfl,by rw [List.size_toArray,lenV];exact hl,by simpa using rv⟩) (fun b u z=>by have z':(none:Option HO)=some u:=z;cases z') (fun b z=>absurd rfl z) fun z=>absurd rfl z
 | none =>
   refine core (fun b=>if b=a then some (.frz { cls := .type "list",data := .seq vs.toArray } (.lst (ns.map V.int))) else none) (fun b=>?_) (.inl (.inr ⟨{ cls := .type "list",data := .seq vs.toArray },if_pos rfl⟩)) (fun b u z=>?_) (fun b z=>?_) fun _=>hk
   · by_cases hb:b=a
     · exact .inr ⟨_,_,if_pos hb⟩
     · exact .inl (if_neg hb)
   · by_cases hb:b=a
     · have z':=(if_pos hb).symm.trans z
       cases z'
       subst hb
       exact ⟨ha,by rw [List.length_map];exact hl,vs,_,rv,ha⟩
     · have z':=(if_neg hb).symm.trans z
       cases z'
   · by_cases hb:b=a
     · exact hb
     · exact absurd (if_neg hb) z
end L2
namespace L2
open PySem PySem.Spec PyProof.Rows
theorem walk_of {l:PySem.W.OpenLaw} {n k:Nat} {q:Program} {loose:List Str} {XP:(Str→Option Value)→Heap→Prop} {YP:World→Heap→Prop} {d:DefRec} {K:Params→PySem.W.Frag} {CX:World→CXT} {sp:World→Sp} {x:Str}
   (hn:l.most=some n) (hn2:n≤sizeLine) (hdf:d.params.defaults=[]) (hr:qd3 k callerA)
   (hY:∀(w:World) (h:Heap),YP w h→(K w.params).In h)
   (F:∀(w:World) (mg:Str→Option Value) (fa:Addr) (h:Heap),(K w.params).In h→h.Ns mainGlobals mg→mg d.name=some (.ref fa) →
     ∃fd:FuncData,(∀(s:Shared) (u:Value),BindsTo s fd ⟨[u],[]⟩ [(x,u)]) ∧
       ∀base:Heap,(K w.params).In base→base.Ns mainGlobals mg→qaZ l.prog w (K w.params) mg base (CX w) k fa fd [x] (sp w))
   (hsp:∀(w:World) (H:Hp) (a:Addr) (ns:List Int),ns.length≤n→qrl H→SqL (K w.params) H a (ns.map V.int)→sp w [.ref a] H (fun v _=>v = .bl true) fun _ _ _=>False)
   (hCX:∀(w:World) (H:Hp) (s:Shared) (e:Value) (s':Shared),CX w [] H s (fun _ _ _=>False) e s'→False) :
   PySem.W.WalkO q loose XP YP l.row.toRowW d [] (fun f vs=>PySem.call f vs):=by
 refine Att.attach_call hn hdf fun w s₀ s₁ mg mb fa o pm cd doc a vs ns G Y ho hd hcd hmg hobj hints hlen hg=>?_
 have KX:=hY w _ Y
 obtain ⟨fd,hb,hF⟩:=F w mg fa _ KX G.T.g hmg
 exact ql7 KX G.T.g G.T.b G.T.builtins G.T.nolimit hg hobj hints (Nat.le_trans hlen hn2) hr hF hb (fun H hO hS=>hsp w H a ns hlen hO hS) fun H e s'=>hCX w H s₁ e s'
end L2
namespace L2
open PySem PySem.Spec PyProof.Rows
def qfp (s:Stmt) (j:Nat):Stmt:=match s with
 | .ClassDef _ _ _ body _ _ _ _ _ _ _=>body.getD j (.Pass ⟨0,0,0,0⟩)
 | _ => .Pass ⟨0,0,0,0⟩
def qam (s:Stmt):Arguments:=match s with
 | .FunctionDef _ a _ _ _ _ _ _ _ _=>a
 | _=>{ posonlyargs:=[],args:=[],vararg:=none,kwonlyargs:=[],kw_defaults:=[],kwarg:=none,defaults:=[] }
def qal (s:Stmt):List Stmt:=match s with
 | .FunctionDef _ _ b _ _ _ _ _ _ _=>b
 | _=>[]
def qad (s:Stmt):Scope:=match s with
 | .FunctionDef _ _ _ _ _ _ sc _ _ _=>sc
 | _=>{ kind := .function,names:=[],isGenerator:=false,isCoroutine:=false }
abbrev CX0:CXT:=fun _ _ _ _ _ _=>False
abbrev E0:XK:=fun _ _ _=>False
theorem qn0 {X:Cx}:qgn CX0 X E0:=fun _ _ _ _ _ _ _ h=>h.elim
structure Fun (K:PySem.W.Frag) (x qual:Str) (st:Stmt) (f:Addr) (fd:FuncData):Prop where
 ex:∃(oc:Value) (od:Option Addr) (kV doc pm:Value) (an:Option Addr) (cdv ct:Value) (osl:Array (Option Value)),
   fd=PySem.W.fnOf x qual (qam st) (qal st) (qad st) .none kV doc pm an cdv ct∧K.lookup f=some ⟨oc,od,.func fd,osl⟩∧PySem.W.codeIn K cdv qual=true
 kp:PySem.W.keepIn K (.ref f)=true
section
variable {P:Program} {w:World} {K:PySem.W.Frag} {mg:Str→Option Value} {base:Heap}
theorem Fun.ok {x qual:Str} {st:Stmt} {f:Addr} {fd:FuncData} {N ps:List Str} {k:Nat} {sp:Sp} (F:Fun K x qual st f fd) (S:qan N ps (qad st)) (len:∀vs H Q E,sp vs H Q E→vs.length=ps.length)
   (hbody:∀(cdv:Value) (A:Around) (outer:List Env) (s:Shared) (H:Hp) (vs:List V) (Q:VK) (E:XK),qd3 k (A.deeper (envOfC qual (qad st) s.heap.objs.size f cdv))→sp vs H Q E →
     ∃t,PSs (qo0 CX0 P w K mg base N qual (qad st) f cdv A outer s H E).nox (qal st) t∧t { nx:=fun _ H'=>Q .non H',rt:=Q } (qh3 N vs) H):qaZ P w K mg base CX0 (k+1) f fd ps sp:=by
 obtain ⟨oc,od,kV,doc,pm,an,cdv,ct,osl,rfl,lk,hcd⟩:=F.ex
 refine qrJ lk hcd S len fun A outer s H vs Q E hr hsp=>?_
 obtain ⟨t,h,q⟩:=hbody cdv A outer s H vs Q E hr hsp
 exact ⟨t,h.nox,q⟩
theorem Fun.binds {x qual:Str} {st:Stmt} {f:Addr} {fd:FuncData} {ps:List Str} (F:Fun K x qual st f fd)
   (h:∀(kV doc pm:Value) (an:Option Addr) (cdv ct:Value) (us:List Value),us.length=ps.length→bindArgs (PySem.W.fnOf x qual (qam st) (qal st) (qad st) .none kV doc pm an cdv ct) ⟨us,[]⟩=pure (ps.zip us)):qdP K fd ps []:=by
 obtain ⟨oc,od,kV,doc,pm,an,cdv,ct,osl,rfl,lk,hcd⟩:=F.ex
 exact .all (h kV doc pm an cdv ct)
theorem qav {x qual:Str} {st:Stmt} {f:Addr} {oc:Value} {od an:Option Addr} {osl:Array (Option Value)} {kV doc pm cdv ct:Value} (l:K.lookup f=some ⟨oc,od,.func (PySem.W.fnOf x qual (qam st) (qal st) (qad st) .none kV doc pm an cdv ct),osl⟩)
 (c:PySem.W.codeIn K cdv qual=true) (k:PySem.W.keepIn K (.ref f)=true):Fun K x qual st f (PySem.W.fnOf x qual (qam st) (qal st) (qad st) .none kV doc pm an cdv ct):=⟨⟨oc,od,kV,doc,pm,an,cdv,ct,osl,rfl,l,c⟩,k⟩
end
theorem qni {A:Around} {k:Nat} (hr:qd3 k A):A.units+1<cLine:=Nat.lt_of_le_of_lt (Nat.add_le_add_left (by decide:1≤64) _) hr.units
section
variable {X:Cx}
theorem pv (i:Nat) {x:Str} {pos:Pos} (hN:X.N[i]?=some x:=by rfl) (hv:Vis X.env.scope x:=by first | exact Or.inl rfl | exact Or.inr (Or.inl rfl) | exact Or.inr (Or.inr rfl)) (hd:(x==("__debug__" : Str))=false:=by decide)
 (hcd:(x==("__classdict__" : Str))=false:=by decide):PE X (.Name x pos) (qrE i):=qq7 hN hv hd hcd
end
theorem qcp {A B:Prop} (h:B):if false=true then A else B:=by
 rw [if_neg Bool.false_ne_true]
 exact h
theorem qeT {A B:Prop} (h:A):if true=true then A else B:=by
 rw [if_pos rfl]
 exact h
theorem qqj {c A B:Prop} [Decidable c] (h1:c→A) (h2:¬c→B):if c then A else B:=by
 by_cases h:c
 · rw [if_pos h]
   exact h1 h
 · rw [if_neg h]
   exact h2 h
def qau (H H':Hp):Prop:=∀b o,H b=some o→H' b=some o
theorem qau.refl (H:Hp):qau H H:=fun _ _ h=>h
theorem qau.trans {H H1 H2:Hp} (a:qau H H1) (b:qau H1 H2):qau H H2:=fun c o h=>b c o (a c o h)
theorem qau.seq {K:PySem.W.Frag} {H H':Hp} {a:Addr} {xs:List V} (e:qau H H') (h:SqL K H a xs):SqL K H' a xs:=by
 rcases h with (h | ⟨o,h⟩) | h
 · exact .inl (.inl (e _ _ h))
 · exact .inl (.inr ⟨o,e _ _ h⟩)
 · exact .inr h
end L2
namespace L2
open PySem
theorem qdB {env:Env}:∀(names:List (Str×NameKind)) (init:List (Str×Addr)),(∀n k,(n,k)∈names→k = .free→∃c,env.cells.lookup n=some c) →
   (∀n c,init.lookup n=some c→env.cells.lookup n=some c) →
   ∃cl,(forIn names init fun (x:Str×NameKind) (cs:List (Str×Addr))=>(match x with
     | (name,kind)=>if (kind==NameKind.free)=true then (do let a ←cellOf env name;pure (ForInStep.yield ((name,a)::cs))) else pure (ForInStep.yield cs):Sem (ForInStep (List (Str×Addr)))))=(pure cl:Sem (List (Str×Addr))) ∧
     (∀n c,cl.lookup n=some c→env.cells.lookup n=some c)∧(∀n,(n,NameKind.free)∈names∨(∃c,init.lookup n=some c)→∃c,cl.lookup n=some c)
 | [],init,_,h1=>⟨init,rfl,h1,fun n h=>by rcases h with h | h;cases h;exact h⟩
 | (nm,k)::r,init,h0,h1=>by
   by_cases hk:k = .free
   · obtain ⟨c,hc⟩:=h0 nm k List.mem_cons_self hk
     have h1':∀n c',((nm,c)::init).lookup n=some c'→env.cells.lookup n=some c':=fun n c' e=>by
       rw [List.lookup_cons] at e
       split at e
       · rename_i he
         have:n=nm:=by simpa using he
         subst this;cases e;exact hc
       · exact h1 n c' e
     obtain ⟨cl,e1,e2,e3⟩:=qdB r ((nm,c)::init) (fun n k' hm=>h0 n k' (List.mem_cons_of_mem _ hm)) h1'
     refine ⟨cl,?_,e2,fun n hn=>e3 n ?_⟩
     · rw [List.forIn_cons]
       subst hk
       have:cellOf env nm=pure c:=by unfold cellOf;rw [hc]
       simp only [this]
       exact e1
     · rcases hn with hn | ⟨c',hn⟩
       · rcases List.mem_cons.mp hn with e | e
         · cases e
           exact .inr ⟨c,by simp [List.lookup_cons]⟩
         · exact .inl e
       · right
         rw [List.lookup_cons]
         split
         · exact ⟨_,rfl⟩
         · exact ⟨c',hn⟩
   · obtain ⟨cl,e1,e2,e3⟩:=qdB r init (fun n k' hm=>h0 n k' (List.mem_cons_of_mem _ hm)) h1
     refine ⟨cl,?_,e2,fun n hn=>e3 n ?_⟩
     · rw [List.forIn_cons]
       have:(k==NameKind.free)=false:=by simpa using hk
       simp only [this]
       exact e1
     · rcases hn with hn | hn
       · rcases List.mem_cons.mp hn with e | e
         · cases e;exact absurd rfl hk
         · exact .inl e
       · exact .inr hn
theorem qcu {scope:Scope} {env:Env} (h:∀n,(n,NameKind.free)∈scope.names→∃c,env.cells.lookup n=some c) :
   ∃cl,closureFor scope env=pure cl∧(∀n c,cl.lookup n=some c→env.cells.lookup n=some c)∧(∀n,(n,NameKind.free)∈scope.names→∃c,cl.lookup n=some c):=by
 obtain ⟨cl,e1,e2,e3⟩:=qdB (env:=env) scope.names [] (fun n k hm hk=>h n (hk▸hm)) (fun n c e=>by cases e)
 refine ⟨cl,?_,e2,fun n hn=>e3 n (.inl hn)⟩
 have e:closureFor scope env=((forIn scope.names ([]:List (Str×Addr)) fun (x:Str×NameKind) (cs:List (Str×Addr))=>(match x with
     | (name,kind)=>if (kind==NameKind.free)=true then (do let a ←cellOf env name;pure (ForInStep.yield ((name,a)::cs))) else pure (ForInStep.yield cs):Sem (ForInStep (List (Str×Addr))))) >>= fun r=>pure r):=rfl
 rw [e,e1]
 rfl
end L2
namespace L2
open PySem PySem.Spec PyProof.Rows
section
variable {X:Cx} {pins:List (Addr×Obj)} {σ:St} {H:Hp} {s:Shared}
theorem Inv.track {p:Addr} {o:HO} (I:Inv X pins σ H s) (f:qhp X pins H p) (new:qbU X.prog X.w (upd H p o) s.heap p o):Inv X pins σ (upd H p o) s:=by
 obtain ⟨f0,f1,f2,f3,f4,f5⟩:=f
 have nit:∀b u,H b=some u→b≠p:=fun b u e z=>by rw [z,f0] at e;cases e
 refine I.step (h':=s.heap) (g':=s.gens) (d':=s.drawn) (t':=s.toks) (ch:=[p]) (fun b hb=>?_) (fun b o _ _ _ e _=>e) (fun b o _ _ _ e _=>⟨o.slots,e⟩)
   (fun b o hc e n=>by rw [qaz (fun z=>hc (by simp [z]))];exact n) (fun b o _ e=>⟨o,e⟩) (fun b xs e=>by rw [qaz (nit b _ e)];exact e) (fun b o u e=>by rw [qaz (nit b _ e)];exact e)
   (fun b ps e=>⟨#[],by rw [qaz (nit b _ e),e];simp⟩) (fun m hm=>hm) (fun b u e=>?_) I.bare
 · have e:b=p:=by simpa using hb
   subst e
   exact ⟨f3,f1,f4,f5⟩
 · by_cases hb:b=p
   · subst hb;rw [qai] at e;cases e;exact new
   · rw [qaz hb] at e
     exact (I.hok b u e).stay (fun c v _ q=>q) (fun c q=>by rw [qaz (nit c _ q)];exact q) fun c xs q=>by rw [qaz (nit c _ q)];exact q
end
section
variable {prog:Program} {w:World} {A:Around} {R:Result→Shared→Prop} {s:Shared}
theorem qey {elt target iter:Expr} {ifs:List Expr} {scope:Scope} {pos:Pos} {it acc:Value} {env:Env} (I:Nat→Shared→Prop)
   (turn:∀n s,I n s→wpAny (model prog w) A (pyNext it) (fun r s₁=>match r with
     | none=>R (.ok .next) s₁
     | some v=>wpAny (model prog w) A (letOwnedTupleGo target it v) (fun _ s₁'=>wpAny (model prog w) A (assign target env v) (fun _ s₂ =>
         wpAny (model prog w) A (forIn ifs true fun c r=>if r=true then do let ok ←isTrue c env (eval c env);pure (ForInStep.yield ok) else pure (ForInStep.yield r)) (fun ok s₃ =>
           if ok=true then wpAny (model prog w) A (eval elt env) (fun x s₄ =>
             wpAny (model prog w) A (call (.builtin "list.append") [acc,x]) (fun _ s₅=>∃m,m<n∧I m s₅) (fun _ _=>False) s₄) (fun _ _=>False) s₃
           else ∃m,m<n∧I m s₃) (fun _ _=>False) s₂) (fun _ _=>False) s₁') (fun _ _=>False) s₁) (fun _ _=>False) s)
   (n:Nat) (h:I n s):codeAny (model prog w) A (.compLoop (.ListComp elt [⟨target,iter,ifs,0⟩] scope pos) 0 it acc env) R s:=by
 refine codeAny_loop rfl I (fun n s hI=>?_) n h
 show wpAny _ A ((compTurn (.ListComp elt [⟨target,iter,ifs,0⟩] scope pos) 0 it acc env).onRaise (fun x=>do noteFrame x env;theTreesLotGoes x)) _ _ s
 refine wpAny_noted (wpAny_noRaise ?_)
 rw [compTurn_list]
 refine wpAny_bind (wpAny_standAt (wpAny_bind (wpAny_mono (turn n s hI) (fun r s₁ h₁=>?_) fun _ _ h'=>h')))
 cases r with
 | none=>exact wpAny_pure h₁
 | some v =>
   refine wpAny_bind (wpAny_mono h₁ (fun _ s₁' h₁'=>?_) fun _ _ h'=>h')
   refine wpAny_bind (wpAny_mono h₁' (fun _ s₂ h₂=>wpAny_bind (wpAny_mono h₂ (fun ok s₃ h₃=>?_) fun _ _ h'=>h')) fun _ _ h'=>h')
   cases ok with
   | false=>exact wpAny_pure ⟨rfl,h₃⟩
   | true =>
     exact wpAny_bind (wpAny_bind (wpAny_mono h₃ (fun x s₄ h₄=>wpAny_bind (wpAny_mono h₄ (fun _ s₅ h₅=>wpAny_pure (wpAny_pure ⟨rfl,h₅⟩)) fun _ _ h'=>h')) fun _ _ h'=>h'))
end
def blk (X:Cx) (N:List Str) (scope:Scope) (cl:List (Str×Addr)) (C:Addr) (s:Shared) (H:Hp) (fp:List Addr):Cx :=
 { X with N:=N,s₀:=s,H₀:=H,env:=compEnvC scope cl C X.env,outer:=X.stack,ex:=fp,fn:=fun _=>false,pn:=[],xe:=fun _ _=>False }
def PTs (X:Cx) (ifs:List Expr) (t:TT):Prop :=
 ∀(pins:List (Addr×Obj)) (s:Shared) (σ:St) (H:Hp) (Q:Bool→Hp→Prop),Inv X pins σ H s→t σ H Q →
   wpAny (model X.prog X.w) X.A (forIn ifs true fun c r=>if r=true then do let ok ←isTrue c X.env (eval c X.env);pure (ForInStep.yield ok) else pure (ForInStep.yield r)) (TP X pins σ Q) X.xe s
def qr5:TT:=fun _ H Q=>Q true H
theorem qaY {X:Cx}:PTs X [] qr5:=fun _ _ _ H _ I h=>wpAny_tests_nil ⟨H,I,h⟩
theorem qcv {X:Cx} {c:Expr} {t:TT} (h:PT X c t):PTs X [c] t:=fun pins s σ H Q I hw=>wpAny_tests_one (h pins s σ H Q I hw)
def qbm (nt:Nat) (caps:List Nat) (σ:St):St:=List.replicate nt none++caps.map fun j=>(σ[j]?).join
def qhA (nt:Nat) (g:TG):Prop:=∀(v:V) (cs:St) (H:Hp) (Q:St→Hp→Prop),g v (List.replicate nt none++cs) H Q →
 g v (List.replicate nt none++cs) H fun σ' H'=>(∀(j:Nat) (u:V),(List.replicate nt none++cs)[j]?=some (some u)→σ'[j]?=some (some u))∧Q σ' H'
theorem qaJ:qhA 1 (qga 0):=by
 intro v cs H Q h
 refine ⟨fun j u e=>?_,h⟩
 cases j with
 | zero=>simp at e
 | succ j=>simpa using e
def qfV (nt:Nat) (caps:List Nat) (wi:TI) (g:TG) (tt:TT) (te:TE):TE:=fun σ H Q=>wi σ H fun J H1 =>
 ∃W:Nat→Nat→List V→Hp→Prop,(∃m,W 0 m [] H1)∧∀i m ys H2,W i m ys H2 →
   (J.stop i H2∧ys.length≤sizeLine∧∀p,H2 p=none→Q (.ref p) (upd H2 p (.lst ys))) ∨
   (J.go i H2∧ys.length<sizeLine∧∀x H3,J.yld i H2 x H3→g x (qbm nt caps σ) H3 fun σ4 H4=>tt σ4 H4 fun b H5 =>
     if b=true then te σ4 H5 fun y H6=>∃m',m'<m∧W (i+1) m' (ys++[y]) H6 else ∃m',m'<m∧W (i+1) m' ys H5)
structure qje (X:Cx) (N:List Str) (nt:Nat) (caps:List Nat) (scope:Scope):Prop where
 cell:∀y∈scope.names,y.2 ≠ .cell
 kind:scope.kind = .function
 names:∀x∈scope.names,x.2 = .local→scope.names.lookup x.1=some .local
 free:∀n,(n,NameKind.free)∈scope.names→X.env.kindOf n=some .cell∨X.env.kindOf n=some .free
 cap:∀(j i:Nat),caps[j]?=some i→∃x,X.N[i]?=some x∧N[nt+j]?=some x∧(x,NameKind.free)∈scope.names∧scope.names.lookup x=some .free
 len:N.length=nt+caps.length
theorem qcq {α:Type} (f:Str×α→Str×α) (hf:∀p,(f p).1=p.1):∀(l:List (Str×α)) (x:Str),(l.map f).lookup x=(l.lookup x).map fun k=>(f (x,k)).2
 | [],_=>rfl
 | (n,k)::r,x=>by
   have ih:=qcq f hf r x
   have e:f (n,k)=(n,(f (n,k)).2):=Prod.ext (hf (n,k)) rfl
   rw [List.map_cons,e,List.lookup_cons,List.lookup_cons]
   split
   · rename_i h
     have:x=n:=by simpa using h
     subst this
     rfl
   · exact ih
theorem qeg {α:Type}:∀{l:List (Str×α)} {x:Str} {k:α},l.lookup x=some k→(x,k)∈l
 | [],_,_,h=>by cases h
 | (n,q)::r,x,k,h=>by
   rw [List.lookup_cons] at h
   split at h
   · rename_i e
     have:x=n:=by simpa using e
     subst this
     cases h
     exact List.mem_cons_self
   · exact List.mem_cons_of_mem _ (qeg h)
theorem qeF {scope:Scope} {env:Env} {x:Str} (hc:∀y∈scope.names,y.2 ≠ .cell) {k:NameKind} (h:(relabel scope env).names.lookup x=some k) (hk:k = .cell∨k = .free):(x,NameKind.free)∈scope.names:=by
 unfold relabel at h
 dsimp only at h
 rw [qcq _ (fun p=>by obtain ⟨n,k⟩:=p;dsimp only;split<;>rfl)] at h
 cases hl:scope.names.lookup x with
 | none=>rw [hl] at h;cases h
 | some q =>
   rw [hl] at h
   have m:=qeg hl
   by_cases hq:q = .free
   · rw [←hq];exact m
   · exfalso
     have hb:(q==NameKind.free)=false:=by simpa using hq
     simp only [Option.map_some,hb,Bool.false_and,Bool.false_eq_true,if_false,Option.some.injEq] at h
     rcases hk with z | z
     · exact hc _ m (h.trans z)
     · exact hq (h.trans z)
theorem qeH {scope:Scope} {env:Env} {x:Str} (h:scope.names.lookup x=some .free):(relabel scope env).names.lookup x≠some .local:=by
 intro q
 unfold relabel at q
 dsimp only at q
 rw [qcq _ (fun p=>by obtain ⟨n,k⟩:=p;dsimp only;split<;>rfl),h] at q
 dsimp only [Option.map] at q
 split at q<;>cases q
def qko (sc:Scope) (NX N:List Str) (nt:Nat) (caps:List Nat) (scope:Scope):Bool :=
 scope.names.all (fun y=>!(y.2 == .cell))&&scope.kind == .function&&scope.names.all (fun y=>!(y.2 == .local)||scope.names.lookup y.1==some .local)
 && scope.names.all (fun y=>!(y.2 == .free)||sc.names.lookup y.1==some .cell||sc.names.lookup y.1==some .free)
 && (List.range caps.length).all (fun j=>match NX[caps.getD j 0]? with
   | some x=>N[nt+j]?==some x&&scope.names.any (fun y=>y.1==x&&y.2 == .free)&&scope.names.lookup x==some .free
   | none=>false)
 && N.length==nt+caps.length
theorem qaF {X:Cx} {N:List Str} {nt:Nat} {caps:List Nat} {scope:Scope} (h:qko X.env.scope X.N N nt caps scope=true:=by rfl):qje X N nt caps scope:=by
 unfold qko at h
 simp only [Bool.and_eq_true,List.all_eq_true,Bool.or_eq_true,Bool.not_eq_true',beq_iff_eq,beq_eq_false_iff_ne,ne_eq] at h
 obtain ⟨⟨⟨⟨⟨h1,h2⟩,h3⟩,h4⟩,h5⟩,h6⟩:=h
 refine ⟨fun y hy=>h1 y hy,h2,fun y hy e=>(h3 y hy).resolve_left fun z=>z e,fun n hn=>?_,fun j i e=>?_,h6⟩
 · rcases h4 (n,.free) hn with (z | z) | z
   · exact absurd rfl z
   · exact .inl z
   · exact .inr z
 · obtain ⟨hj,e'⟩:=List.getElem?_eq_some_iff.mp e
   have q:=h5 j (List.mem_range.mpr hj)
   have eg:caps.getD j 0=i:=by rw [List.getD_eq_getElem?_getD,e];rfl
   rw [eg] at q
   cases hx:X.N[i]? with
   | none=>rw [hx] at q;cases q
   | some x =>
     rw [hx] at q
     simp only [Bool.and_eq_true,beq_iff_eq,List.any_eq_true] at q
     obtain ⟨⟨q1,y,hy,e1,e2⟩,q3⟩:=q
     refine ⟨x,rfl,q1,?_,q3⟩
     obtain ⟨n,k⟩:=y
     cases e1;cases e2
     exact hy
section
variable {X:Cx} {tg iter elt:Expr} {ifs:List Expr} {scope:Scope} {pos:Pos} {N:List Str} {nt:Nat} {caps:List Nat} {wi:TI} {g:TG} {tt:TT} {te:TE} {cl:List (Str×Addr)}
theorem qi8 {pins:List (Addr×Obj)} {σ:St} {H:Hp} {s:Shared} {it:Addr} {fp:List Addr} {tn:Nat→Heap→Prop} {J:It} {RR:Value→Addr→Result→Shared→Prop} {E:Value→Shared→Prop}
   (ok:qje X N nt caps scope) (hc:X.calm=true) (h1:∀n c,cl.lookup n=some c→X.env.cells.lookup n=some c) (h2:∀n,(n,NameKind.free)∈scope.names→∃c,cl.lookup n=some c)
   (hg:∀cl C s H fp,PG (blk X N scope cl C s H fp) tg g) (hgk:qhA nt g) (ht:∀cl C s H fp,PTs (blk X N scope cl C s H fp) ifs tt) (he:∀cl C s H fp,PE (blk X N scope cl C s H fp) elt te)
   (I:Inv X pins σ H s) (T:ql2 X.prog X.w X.K tg J fp it tn) (st:tn 0 s.heap) (hf:∀b∈fp,qhp X pins H b)
   (W:Nat→Nat→List V→Hp→Prop) (Z:List V→Hp→Prop) (m0:Nat) (w0:W 0 m0 [] H)
   (turn:∀i m ys H2,W i m ys H2→(J.stop i H2∧Z ys H2) ∨
     (J.go i H2∧ys.length<sizeLine∧∀x H3,J.yld i H2 x H3→g x (qbm nt caps σ) H3 fun σ4 H4=>tt σ4 H4 fun b H5 =>
       if b=true then te σ4 H5 fun y H6=>∃m',m'<m∧W (i+1) m' (ys++[y]) H6 else ∃m',m'<m∧W (i+1) m' ys H5))
   (hRR:∀(C:Addr) (s':Shared) (ys:List V) (its:List Value) (n:Nat) (H':Hp),s.heap.objs.size<C→qbd ys its→Inv (blk X N scope cl C s H fp) [] (qbm nt caps σ) H' s' →
     s'.heap.get? s.heap.objs.size=some { cls := .type "list",data := .seq its.toArray n }→H' s.heap.objs.size=none→Z ys H'→RR (.ref s.heap.objs.size) C (.ok .next) s') :
   wpAny (model X.prog X.w) X.A (newList []) (fun acc s₃=>wpAny (model X.prog X.w) X.A (newFunctionEnv scope X.env.globals cl [] X.env.qual none .none (some X.env)) (fun cenv s₄ =>
     codeAny (model X.prog X.w) X.A (.compStart (.ListComp elt [⟨tg,iter,ifs,0⟩] scope pos) 0 (.ref it) acc { cenv with scope:=relabel scope X.env }) (RR acc cenv.locals) s₄) E s₃) E s:=by
 refine wpAny_newObj_type (wpAny_newFunctionEnv ok.cell (by intro y hy;simp at hy) (fun h₁ hns₁ hsb₁=>?_) ok.kind)
 dsimp only at hns₁ hsb₁ ⊢
 generalize hG:s.heap.push { cls := .type "list",dict:=none,data := .seq ([]:List Value).toArray }=G at hns₁ hsb₁ ⊢
 have hC:G.objs.size=s.heap.objs.size+1:=by rw [←hG,Heap.size_push]
 have hDC:s.heap.objs.size≠G.objs.size:=by rw [hC];exact Nat.ne_of_lt (Nat.lt_succ_self _)
 have hlt:s.heap.objs.size<G.objs.size:=by rw [hC];exact Nat.lt_succ_self _
 have old:∀b o,s.heap.get? b=some o→h₁.get? b=some o:=fun b o e =>
   hsb₁.extBut b o (Nat.ne_of_lt (Nat.lt_trans (Heap.lt_size e) hlt)) (Heap.get?_push_of_some _ (hG▸Heap.get?_push_of_some _ e))
 have hacc:h₁.get? s.heap.objs.size=some { cls := .type "list",data := .seq ([]:List Value).toArray 0 }:=hsb₁.extBut _ _ hDC (Heap.get?_push_of_some _ (hG▸Heap.get?_push_size _ rfl))
 have fpD:∀b∈fp,b<s.heap.objs.size:=fun b hb=>by
   obtain ⟨o,e,_⟩:=T.obj _ _ st b hb
   exact Heap.lt_size e
 have celt:∀n c,cl.lookup n=some c→c<s.heap.objs.size:=fun n c e=>by
   obtain ⟨v,q⟩:=I.cell n c (h1 n c e)
   exact q.lt
 have YOk:(blk X N scope cl G.objs.size s H fp).Ok:=by
   refine ⟨I.ok.mod,ok.kind,I.ok.glob,I.ok.blt,Nat.le_of_lt hlt,fun x y c e e'=>I.ok.inj x y c (h1 x c e) (h1 y c e'),fun x hx=>?_,fun x c hx _=>(nomatch hx),I.ok.hd,I.ok.frames,.inl rfl,
     fun b hb=>⟨Nat.ne_of_lt (Nat.lt_trans (fpD b hb) hlt),fun x c e z=>?_⟩,fun b o e=>I.bs b o e,Nat.le_trans I.ok.bsz I.sz,fun b o e hb=>?_,fun b hb hz=>?_,I.stack,I.stkFree⟩
   · rcases hx with hx | hx
     · exact h2 x (qeF ok.cell hx (.inl rfl))
     · exact h2 x (qeF ok.cell hx (.inr rfl))
   · exact (hf b hb).2.2.2.2.1 x c (h1 x c e) z
   · rcases (hf b hb).2.2.2.1 with z | z
     · exact I.ok.noex b o e z
     · exact absurd (Nat.lt_of_lt_of_le (Heap.lt_size e) (Nat.le_trans I.ok.bsz z)) (Nat.lt_irrefl _)
   · rcases List.mem_cons.mp (I.stkSub b hz) with z | z
     · exact (hf b hb).2.1 z
     · exact (hf b hb).2.2.1 z
 have lenb:(qbm nt caps σ).length=N.length:=by rw [ok.len];simp [qbm]
 have IY:Inv (blk X N scope cl G.objs.size s H fp) [] (qbm nt caps σ) H { s with heap:=h₁,toks:=s.toks+([]:List (Str×Value)).length }:=by
   refine ⟨YOk,rfl,I.bare,Un.kept old,⟨_,hns₁,fun i x v e1 e2 e3=>?_⟩,fun x c e=>?_,I.hok.fresh (Nat.le_of_lt hlt),fun x c e=>I.freeC x c (h1 x c e),fun p hp=>(nomatch hp),I.hok.kept old,lenb⟩
   · have hi:nt≤i:=by
       rcases Nat.lt_or_ge i nt with z | z
       · exfalso
         unfold qbm at e2
         rw [List.getElem?_append_left (by simpa using z),List.getElem?_replicate] at e2
         split at e2<;>cases e2
       · exact z
     unfold qbm at e2
     rw [List.getElem?_append_right (by simpa using hi),List.length_replicate,List.getElem?_map] at e2
     cases ej:caps[i-nt]? with
     | none=>rw [ej] at e2;cases e2
     | some j =>
       rw [ej] at e2
       have e2':(σ[j]?).join=some v:=by simpa using e2
       have e2'':σ[j]?=some (some v):=by
         cases q:σ[j]? with
         | none=>rw [q] at e2';cases e2'
         | some z=>rw [q] at e2';simp at e2';rw [e2']
       obtain ⟨y,y1,y2,y3,y4⟩:=ok.cap _ _ ej
       have:nt+(i-nt)=i:=by omega
       rw [this] at y2
       have e1':N[i]?=some x:=e1
       rw [e1'] at y2
       cases y2
       obtain ⟨m,hn,hl⟩:=I.loc
       have kx:=ok.free x y3
       have vx:Vis X.env.scope x:=by
         rcases kx with z | z
         · exact .inr (.inl z)
         · exact .inr (.inr z)
       obtain ⟨u,r,l⟩:=hl j x v y1 e2'' vx
       refine ⟨u,r,.inr ⟨?_,?_⟩⟩
       · rcases e3 with z | z | z
         · exact absurd z (qeH y4)
         · exact .inl z
         · exact .inr z
       · obtain ⟨c,hcl⟩:=h2 x y3
         refine ⟨c,hcl,?_⟩
         rcases l with ⟨k,_⟩ | ⟨_,c',hc',o,ho,hd⟩
         · rcases kx with z | z<;>(rw [z] at k;cases k)
         · have:c=c':=Option.some.inj ((h1 x c hcl).symm.trans hc')
           subst this
           exact ⟨o,old c o ho,hd⟩
   · obtain ⟨v,o,ho,hd⟩:=I.cell x c (h1 x c e)
     exact ⟨v,o,old c o ho,hd⟩
 -- the loop
 have stat:∀{pn:List (Addr×Obj)} {H':Hp},(∀b∈fp,H' b=none)→(∀p∈pn,s.heap.objs.size≤p.1)→∀b∈fp,qhp (blk X N scope cl G.objs.size s H fp) pn H' b:=fun {pn H'} hn hpn b hb =>
   ⟨hn b hb,Nat.ne_of_lt (Nat.lt_trans (fpD b hb) hlt),fun hz=>(YOk.exfs b hb hz).elim,.inl hb,fun x c e z=>(hf b hb).2.2.2.2.1 x c (h1 x c e) z,fun p hp z=>by
     have hp':p∈pn:=by simpa [blk] using hp
     have:=hpn p hp'
     rw [z] at this
     exact absurd (Nat.lt_of_lt_of_le (fpD b hb) this) (Nat.lt_irrefl _)⟩
 have hDf:s.heap.objs.size∉fp:=fun hm=>Nat.lt_irrefl _ (fpD _ hm)
 have hDs:s.heap.objs.size∉frs X.stack:=fun hm=>by
   rcases List.mem_cons.mp (I.stkSub _ hm) with z | z
   · exact absurd I.lt (by rw [←z];exact Nat.lt_irrefl _)
   · exact I.nofs (Nat.le_refl _) z
 have loop:∀s₃:Shared,s₃={ s with heap:=h₁,toks:=s.toks+([]:List (Str×Value)).length } →
     codeAny (model X.prog X.w) X.A (.compLoop (.ListComp elt [⟨tg,iter,ifs,0⟩] scope pos) 0 (.ref it) (.ref s.heap.objs.size) (compEnvC scope cl G.objs.size X.env)) (RR (.ref s.heap.objs.size) G.objs.size) s₃:=by
   rintro s₃ rfl
   refine qey (fun n s'=>∃i ys its k H',Inv (blk X N scope cl G.objs.size s H fp) [] (qbm nt caps σ) H' s'∧tn i s'.heap∧(∀b∈fp,H' b=none)∧qbd ys its ∧
     s'.heap.get? s.heap.objs.size=some { cls := .type "list",data := .seq its.toArray k }∧H' s.heap.objs.size=none∧ys.length≤sizeLine∧W i n ys H') ?_ m0
     ⟨0,[],[],0,H,IY,T.keep _ _ _ st fun b hb o e=>old b o e,fun b hb=>(hf b hb).1,.nil,hacc,I.hok.fresh (Nat.le_refl _),Nat.zero_le _,w0⟩
   rintro n s3 ⟨i,ys,its,k,H3,I3,st3,fr3,v3,a3,n3,z3,w3⟩
   have I3p:Inv (blk X N scope cl G.objs.size s H fp) [(s.heap.objs.size,{ cls := .type "list",data := .seq its.toArray k })] (qbm nt caps σ) H3 s3:=I3.pins_of fun p hp=>by
     have e:p=(s.heap.objs.size,{ cls := .type "list",data := .seq its.toArray k }):=by simpa using hp
     subst e
     exact ⟨a3,n3,hDC,hDs,fun v z=>by cases z⟩
   have pn3:∀p∈[(s.heap.objs.size,({ cls := .type "list",data := .seq its.toArray k }:Obj))],s.heap.objs.size≤p.1:=fun p hp=>by
     have e:p=(s.heap.objs.size,{ cls := .type "list",data := .seq its.toArray k }):=by simpa using hp
     subst e
     exact Nat.le_refl _
   rcases turn i n ys H3 w3 with ⟨stop,zz⟩ | ⟨go,hlen,step⟩
   · refine thn (T.done (blk X N scope cl G.objs.size s H fp) rfl rfl rfl hc i _ s3 _ H3 _ I3p (stat fr3 pn3) st3 stop) fun r s4 ⟨hr,I4⟩=>?_
     subst hr
     have a4:=I4.pin (s.heap.objs.size,{ cls := .type "list",data := .seq its.toArray k }) (List.mem_append_right _ (by simp))
     exact hRR _ s4 ys its k H3 hlt v3 (I4.pins_of fun _ hp=>nomatch hp) a4.1 n3 zz
   · refine thn (T.item (blk X N scope cl G.objs.size s H fp) rfl rfl rfl hc i _ s3 _ H3 _ I3p (stat fr3 pn3) st3 go) fun r s4 ⟨u,hr,h4⟩=>?_
     subst hr
     refine thn h4 fun _ s5 ⟨x,H5,I5,r5,y5,st5,fr5⟩=>?_
     have I5':=I5.pinned (stat fr5 pn3) (T.obj _ _ st5)
     refine thn (hg _ _ _ _ _ _ s5 _ H5 x u _ I5' r5 (hgk _ _ _ _ (step x H5 y5))) fun _ s6 ⟨σ6,H6,I6,kp6,q6⟩=>?_
     refine thn (ht _ _ _ _ _ _ s6 σ6 H6 _ I6 q6) fun b s7 ⟨H7,I7,q7⟩=>?_
     have back:∀{H8:Hp} {s8:Shared},Inv (blk X N scope cl G.objs.size s H fp) ([(s.heap.objs.size,({ cls := .type "list",data := .seq its.toArray k }:Obj))]++qgw fp s5.heap) σ6 H8 s8 →
         Inv (blk X N scope cl G.objs.size s H fp) [] (qbm nt caps σ) H8 s8∧tn (i+1) s8.heap∧(∀b∈fp,H8 b=none)∧s8.heap.get? s.heap.objs.size=some { cls := .type "list",data := .seq its.toArray k }∧H8 s.heap.objs.size=none:=fun {H8 s8} I8=>by
       have a8:=I8.pin (s.heap.objs.size,{ cls := .type "list",data := .seq its.toArray k }) (List.mem_append_right _ (List.mem_append_left _ (by simp)))
       refine ⟨(I8.pins_of (pins':=[]) fun _ hp=>absurd hp (by simp)).weak (by rw [lenb,I8.len];rfl) kp6,T.keep _ _ _ st5 fun b hb o e=>(I8.pin (b,o) (List.mem_append_right _ (List.mem_append_right _ (qb9 hb e)))).1,fun b hb=>?_,a8.1,a8.2.1⟩
       obtain ⟨o,e,d⟩:=T.obj _ _ st5 b hb
       exact (I8.pin (b,o) (List.mem_append_right _ (List.mem_append_right _ (qb9 hb e)))).2.1
     cases b with
     | false =>
       rw [if_neg (by intro z;cases z)] at q7 ⊢
       obtain ⟨m',hm,w7⟩:=q7
       obtain ⟨b1,b2,b3,b4,b5⟩:=back I7
       exact ⟨m',hm,i+1,ys,its,k,H7,b1,b2,b3,v3,b4,b5,z3,w7⟩
     | true =>
       rw [if_pos rfl] at q7 ⊢
       refine thn (he _ _ _ _ _ _ s7 σ6 H7 _ I7 q7) fun u8 s8 ⟨y,H8,I8,r8,m',hm,w8⟩=>?_
       obtain ⟨b1,b2,b3,b4,b5⟩:=back I8
       have hl:=v3.length
       refine call_meets F.slot_list_append ⟨_,b4,rfl⟩ F.entry_list_append (F.args_list_append_2 _ _) (PySem.list_append s.heap.objs.size its.toArray k u8 (by rw [List.size_toArray];omega)) ⟨b4,?_⟩
       have q:=PySem.IsL.update (show PySem.IsL s8.heap s.heap.objs.size its.toArray k from b4) (fun x=>x.push u8)
       have eq:its.toArray.push u8=(its++[u8]).toArray:=by simp
       rw [eq] at q
       have keep:∀b' o,b'≠s.heap.objs.size→s8.heap.get? b'=some o→(s8.heap.update s.heap.objs.size (Obj.mapSeq fun x=>x.push u8)).get? b'=some o:=fun b' o hb hu =>
         (Heap.get?_update_other s8.heap (Obj.mapSeq fun x=>x.push u8) (Ne.symm hb)).trans hu
       refine ⟨m',hm,i+1,ys++[y],its++[u8],_,H8,b1.turned (t':=s8.toks) keep b5 hDC (.inr (Nat.le_refl _)) (fun x c e z=>?_) (fun p hp=>by simp [blk] at hp),T.keep _ _ _ b2 fun b hb o e=>keep b o (fun z=>hDf (z▸hb)) e,b3,
         v3.append (.cons r8 .nil),q,b5,?_,w8⟩
       · exact absurd (celt x c e) (by rw [z];exact Nat.lt_irrefl _)
       · rw [List.length_append,List.length_singleton];omega
 exact codeAny_compStart_list (loop _ rfl) (T.self _ 0 _ _ _ (T.keep _ _ _ st fun b hb o e=>old b o e) (loop _ rfl))
theorem qh9 {pins:List (Addr×Obj)} {σ:St} {H H':Hp} {s s':Shared} {fp:List Addr} {C:Addr} {ys:List V} {its:List Value} {n:Nat} {σb:St} {h':Heap}
   (I:Inv X pins σ H s) (hf:∀b∈fp,qhp X pins H b) (hC:s.heap.objs.size<C) (v:qbd ys its) (hz:ys.length≤sizeLine) (IY:Inv (blk X N scope cl C s H fp) [] σb H' s')
   (e:s'.heap.get? s.heap.objs.size=some { cls := .type "list",data := .seq its.toArray n }) (en:H' s.heap.objs.size=none) (hs:∀b o,b≠C→s'.heap.get? b=some o→h'.get? b=some o) :
   Inv X pins σ (upd H' s.heap.objs.size (.lst ys)) { s' with heap:=h' }:=by
 have hCn:H' C=none:=IY.free
 have hok:HOk X.prog X.w H' h':=fun b u q=>by
   have nC:∀c u',H' c=some u'→c≠C:=fun c u' q' z=>by rw [z,hCn] at q';cases q'
   refine (IY.hok b u q).stay (fun c w' hc q'=>hs c w' ?_ q') (fun _ q'=>q') fun _ _ q'=>q'
   rcases hc with z | z
   · rw [z];exact nC b u q
   · exact nC c _ z
 have lt:∀b o,s.heap.get? b=some o→b≠C:=fun b o q=>Nat.ne_of_lt (Nat.lt_trans (Heap.lt_size q) hC)
 have u:Un (frs X.stack) fp H H' s.heap h':=⟨fun b o q nn hb hx=>hs b o (lt b o q) (IY.base.keep b o q nn hb hx),fun b o q nn hb hx=>by
     obtain ⟨sl,q'⟩:=IY.base.slot b o q nn hb hx
     exact ⟨sl,hs b _ (lt b o q) q'⟩,IY.base.free,fun b o q hx=>by
     obtain ⟨o',q'⟩:=IY.base.there b o q hx
     exact ⟨o',hs b o' (lt b o q) q'⟩,IY.base.tups,IY.base.frzs,IY.base.tbls⟩
 have I1:Inv X pins σ H' { s' with heap:=h' }:=I.call' (s':={ s' with heap:=h' }) (ch:=fp) IY.os u hok IY.bare fun b hb=>⟨(hf b hb).2.2.2.1,(hf b hb).2.1,(hf b hb).2.2.2.2.1,(hf b hb).2.2.2.2.2⟩
 have hD:h'.get? s.heap.objs.size=some { cls := .type "list",data := .seq its.toArray n }:=hs _ _ (Nat.ne_of_lt hC) e
 exact I1.track (by
   have f:=I.fpOk (H':=H') (b:=s.heap.objs.size) (Nat.le_refl _) en
   exact f) ⟨hz,its,n,v,hD⟩
theorem qaQ (ok:qje X N nt caps scope) (hc:X.calm=true) (hi:PI X tg iter wi)
   (hg:∀cl C s H fp,PG (blk X N scope cl C s H fp) tg g) (hgk:qhA nt g) (ht:∀cl C s H fp,PTs (blk X N scope cl C s H fp) ifs tt) (he:∀cl C s H fp,PE (blk X N scope cl C s H fp) elt te)
   (hs:∀x,foldedSetIterable iter X.env x=pure x:=by intro _;rfl):PE X (.ListComp elt [⟨tg,iter,ifs,0⟩] scope pos) (qfV nt caps wi g tt te):=by
 intro pins s σ H Q I h
 obtain ⟨cl,hcl,h1,h2⟩:=qcu (scope:=scope) (env:=X.env) fun n hn=>I.ok.has n (ok.free n hn)
 rw [eval_ListComp]
 refine wpAny_comprehension_free (use:=none) rfl hs hcl ok.kind ok.names (thn (hi pins s σ H _ I h) fun xv s1 h1'=>thn h1' fun itv s2 h2'=>?_)
 obtain ⟨it,fp,tn,J,H2,e,I2,T,st2,f2,W,⟨m0,w0⟩,turn⟩:=h2'
 subst e
 refine qi8 (RR:=fun acc C=>compPost (model X.prog X.w) X.A X.xe none (EP X pins σ Q) acc C) ok hc h1 h2 hg hgk ht he I2 T st2 f2 W (fun ys H'=>ys.length≤sizeLine∧∀p,H' p=none→Q (.ref p) (upd H' p (.lst ys))) m0 w0 turn ?_
 intro C s' ys its n H' hC v IY e en zz
 obtain ⟨m,hn,_⟩:=IY.loc
 exact ⟨m,hn,fun h' hs'=>⟨.ref s2.heap.objs.size,_,qh9 I2 f2 hC v zz.1 IY e en (fun b o hb q=>hs'.extBut b o hb q),rfl,zz.2 _ en⟩⟩
theorem qed {i:Nat} {y:Str} {py spos:Pos} (hN:X.N.Nodup) (hyi:X.N[i]?=some y) (hy:X.env.scope.names.lookup y=some .local) (hsw:swapsWith (.ListComp elt [⟨tg,iter,ifs,0⟩] scope pos) (some (.Name y py)) spos.line X.env=pure true)
   (ok:qje X N nt caps scope) (hc:X.calm=true) (hi:PI X tg iter wi)
   (hg:∀cl C s H fp,PG (blk X N scope cl C s H fp) tg g) (hgk:qhA nt g) (ht:∀cl C s H fp,PTs (blk X N scope cl C s H fp) ifs tt) (he:∀cl C s H fp,PE (blk X N scope cl C s H fp) elt te)
   (hs:∀x,foldedSetIterable iter X.env x=pure x:=by intro _;rfl):PS X (.Assign [.Name y py] (.ListComp elt [⟨tg,iter,ifs,0⟩] scope pos) spos) (qpx (qfV nt caps wi g tt te) (qga i)):=by
 intro pins s σ H D I h
 obtain ⟨cl,hcl,h1,h2⟩:=qcu (scope:=scope) (env:=X.env) fun n hn=>I.ok.has n (ok.free n hn)
 rw [exec_Assign_Name_used _ _ _ _ hsw]
 refine wpAny_bind (wpAny_standAt (wpAny_bind ?_))
 show wpAny _ X.A (do let _ ←comprehension (.ListComp elt [⟨tg,iter,ifs,0⟩] scope pos) scope X.env _ (newList []) false (eval iter X.env) (some (assign (.Name y py) X.env))) _ _ s
 refine wpAny_bind (wpAny_mono (wpAny_comprehension_free (use:=some (assign (.Name y py) X.env)) (Q:=fun _ s'=>SP X pins D .next s') rfl hs hcl ok.kind ok.names
   (thn (hi pins s σ H _ I h) fun xv s1 h1'=>thn h1' fun itv s2 h2'=>?_)) (fun _ s' hq=>wpAny_pure (wpAny_pure hq)) fun _ _ e=>e)
 obtain ⟨it,fp,tn,J,H2,e,I2,T,st2,f2,W,⟨m0,w0⟩,turn⟩:=h2'
 subst e
 refine qi8 (RR:=fun acc C=>compPost (model X.prog X.w) X.A X.xe (some (assign (.Name y py) X.env)) (fun _ s'=>SP X pins D .next s') acc C) ok hc h1 h2 hg hgk ht he I2 T st2 f2 W
   (fun ys H'=>ys.length≤sizeLine∧∀p,H' p=none→qga i (.ref p) σ (upd H' p (.lst ys)) D.nx) m0 w0 turn ?_
 intro C s' ys its n H' hC v IY e en zz
 obtain ⟨m,hn,_⟩:=IY.loc
 have I3:Inv X pins σ (upd H' s2.heap.objs.size (.lst ys)) s':=qh9 (h':=s'.heap) I2 f2 hC v zz.1 IY e en fun b o hb q=>q
 obtain ⟨o,es,ep,ho,r⟩:=id hn
 have fC:qhp X pins (upd H' s2.heap.objs.size (.lst ys)) C:=by
   have f:=I2.fpOk (H':=H') (b:=C) (Nat.le_of_lt hC) IY.free
   refine ⟨by rw [qaz (Ne.symm (Nat.ne_of_lt hC))];exact IY.free,f.2⟩
 show wpAny (model X.prog X.w) X.A (assign (.Name y py) X.env (.ref s2.heap.objs.size)) (fun _ s''=>∃m,s''.heap.Ns C m∧∀h',Heap.SameBut C s''.heap h'→SP X pins D .next { s'' with heap:=h' }) X.xe s'
 have I3p:Inv X (pins++[(C,o)]) σ (upd H' s2.heap.objs.size (.lst ys)) s':=I3.pins_of fun p hp=>by
   rcases List.mem_append.mp hp with z | z
   · exact I3.pin p (List.mem_append_right _ z)
   · have e:p=(C,o):=by simpa using z
     subst e
     exact ⟨ho,fC.1,fC.2.1,fC.2.2.1,fun v z=>by rw [r.1] at z;cases z⟩
 refine wpAny_assign_Name (qeY I3p hN hyi (.inl hy) (v := .ref s2.heap.objs.size) rfl (fun s4 I4=>?_) (.inr hy))
 have a4:=I4.pin (C,o) (List.mem_append_right _ (List.mem_append_right _ (by simp)))
 refine ⟨m,⟨o,es,ep,a4.1,r⟩,fun h' hs'=>⟨_,_,?_,zz.2 _ en⟩⟩
 exact (I4.unpinned).turned (t':=s4.toks) (fun b o' hb q=>hs'.extBut b o' hb q) fC.1 fC.2.1 fC.2.2.2.1 fC.2.2.2.2.1 fC.2.2.2.2.2
end
end L2
namespace L2
open PySem PySem.Spec PyProof.Rows
structure Cal (P:Program) (w:World) (K:PySem.W.Frag) (mg:Str→Option Value) (base:Heap) (x:Str) (k:Nat) (ps:List Str) (sp:Sp) (f:Addr) (fd:FuncData):Prop where
 ok:qaZ P w K mg base CX0 k f fd ps sp
 mg:mg x=some (.ref f)
 kp:PySem.W.keepIn K (.ref f)=true
 bd:qdP K fd ps []
section
variable {X:Cx} {x:Str} {p pos:Pos} {e:Expr} {es:List Expr} {t:TA} {k j:Nat} {ps:List Str} {sp:Sp} {f:Addr} {fd:FuncData}
theorem qap (C:Cal X.prog X.w X.K X.mg X.base x k ps sp f fd) (hr:qd3 j X.A) (hj:k≤j) (hg:Gl X x) (ha:PA X (e::es) t) (hdb:(x==("__debug__" : Str))=false:=by decide)
 (he:starEach (e::es) X.env=(false,eval e X.env)::starEach es X.env:=by rfl) (hpl:(backTo pos (starEach es X.env)).any (·.1)=false:=by rfl) :
 PE X (.Call (.Name x p) (e::es) [] pos) (qoK sp [] E0 t):=qpr C.ok (hr.mono hj) hg C.mg C.kp C.bd .nil qn0 ha hdb he hpl
end
section
variable {X:Cx}
def qoq (i j:Int):Prop:=0<j∧j<2^200
theorem qoq.log {i j:Int} (h:qoq i j):j.natAbs.log2<9000:=by
 have h1:0<j:=h.1
 have h2:j<2^200:=h.2
 have h3:j.natAbs<2^200:=by omega
 have h4:j.natAbs≠0:=by omega
 have:=(Nat.log2_lt h4).mpr h3
 omega
theorem qbG:OpR X (binaryOp .FloorDiv) (rI qoq fun i j => .int (i/j)):=opI fun i j _ _ _ _ _ hc q=>by
 have h1:(0:Int)<j:=hc.1
 exact floordiv_int (by omega) (by rw [Int.fdiv_eq_ediv_of_nonneg i (by omega)];exact q) (.inl (PyProof.noPylong_of_log2 hc.log))
def qkf (H:Hp):V→Option String
 | .non=>some "NoneType"
 | .bl _=>some "bool"
 | .int _=>some "int"
 | .str _=>some "str"
 | .ref a=>match H a with
   | some (.lst _)=>some "list"
   | some (.frz _ (.lst _))=>some "list"
   | some (.tup _)=>some "tuple"
   | some (.dK _)=>some "dict"
   | _=>none
 | _=>none
def ql1 (t c:String):Bool:=t==c||(t == "bool" && c == "int")
theorem qoH (K:PySem.W.Frag):∀t∈["NoneType", "bool", "int", "str", "list", "tuple", "dict"],∀c∈["int", "bool", "list", "tuple", "str"],PySem.W.kitOne K (.type t) (.type c)=some (ql1 t c):=by
 intro t ht c hc
 simp only [List.mem_cons,List.not_mem_nil,or_false] at ht hc
 rcases ht with rfl | rfl | rfl | rfl | rfl | rfl | rfl<;>rcases hc with rfl | rfl | rfl | rfl | rfl<;>rfl
theorem qox {K:PySem.W.Frag} {H:Hp} {x:V} {t:String} (h:qkf H x=some t):qjV K H x (.type t)∧t∈["NoneType", "bool", "int", "str", "list", "tuple", "dict"]:=by
 cases x with
 | non=>cases h;exact ⟨.non,by decide⟩
 | bl b=>cases h;exact ⟨.bl b,by decide⟩
 | int i=>cases h;exact ⟨.int i,by decide⟩
 | str z=>cases h;exact ⟨.str z,by decide⟩
 | ref a =>
   unfold qkf at h
   dsimp only at h
   split at h
   · rename_i e;cases h;exact ⟨.lst e,by decide⟩
   · rename_i e;cases h;exact ⟨.frz e,by decide⟩
   · rename_i e;cases h;exact ⟨.tup e,by decide⟩
   · rename_i e;cases h;exact ⟨.dK e,by decide⟩
   · cases h
 | _=>cases h
def qkP:List V→Hp→VK→Prop:=fun xs H Q=>∃x c t,xs=[x,.ty c]∧qkf H x=some t∧c∈["int", "bool", "list", "tuple", "str"]∧Q (.bl (ql1 t c)) H
theorem qco:qcV X (.builtin "isinstance") qkP:=by
 intro pins s σ H xs us Q I r h
 obtain ⟨x,c,t,rfl,hk,hc,q⟩:=h
 obtain ⟨u,w',rfl,rx,ry⟩:=qn9 r
 cases (show w'=Value.type c from ry)
 obtain ⟨ty,ht⟩:=qox (K:=X.K) hk
 exact qlf I rx ty (qoH X.K t ht c hc) fun tk=>⟨.bl _,H,I.tok _,rfl,q⟩
def qgh (xs ys:List V):Bool:=xs.length==ys.length&&(List.range xs.length).all fun j=>eqV (xs.getD j .non) (ys.getD j .non)
theorem qkA (ns ms:List Int):qgh (ns.map V.int) (ms.map V.int)=decide (ns=ms):=by
 unfold qgh
 rw [List.length_map,List.length_map]
 by_cases hl:ns.length=ms.length
 · rw [show (ns.length==ms.length)=true by simpa using hl,Bool.true_and]
   rw [Bool.eq_iff_iff,List.all_eq_true,decide_eq_true_eq]
   constructor
   · intro h
     refine List.ext_getElem hl fun i h1 h2=>?_
     have q:=h i (List.mem_range.mpr h1)
     simpa [List.getD,h1,h2,eqV] using q
   · rintro rfl j hj
     have hj':=List.mem_range.mp hj
     simp [List.getD,hj',eqV]
 · rw [show (ns.length==ms.length)=false by simpa using hl,Bool.false_and]
   exact (decide_eq_false fun e=>hl (by rw [e])).symm
def qpH (K:PySem.W.Frag):R2:=fun x y H Q=>∃a b xs ys,x = .ref a∧y = .ref b∧SqL K H a xs∧SqL K H b ys∧xs.all qb0=true∧ys.all qb0=true∧Q (.bl (qgh xs ys)) H
def qqn (K:PySem.W.Frag):R2:=fun x y H Q=>∃a b xs ys,x = .ref a∧y = .ref b∧SqL K H a xs∧SqL K H b ys∧xs.all qb0=true∧ys.all qb0=true∧Q (.bl (!qgh xs ys)) H
theorem qhr {A:Around} {s:Shared} {xs ys:List V} {us ws:List Value} (rx:qbd xs us) (ry:qbd ys ws) (fx:xs.all qb0=true) (fy:ys.all qb0=true) (j:Nat) (h1:j<us.toArray.size) (h2:j<ws.toArray.size) :
   SeqAt.EqAt A s us.toArray[j] ws.toArray[j] (eqV (xs.getD j .non) (ys.getD j .non)):=by
 have l1:=rx.length
 have l2:=ry.length
 rw [List.size_toArray] at h1 h2
 have e1:xs[j]?=some (xs.getD j .non):=by rw [List.getD_eq_getElem?_getD,List.getElem?_eq_getElem (by omega)];rfl
 have e2:ys[j]?=some (ys.getD j .non):=by rw [List.getD_eq_getElem?_getD,List.getElem?_eq_getElem (by omega)];rfl
 obtain ⟨u,hu,ru⟩:=rx.get e1
 obtain ⟨v,hv,rv⟩:=ry.get e2
 have g1:us.toArray[j]=u:=by
   rw [List.getElem_toArray]
   exact Option.some.inj ((List.getElem?_eq_getElem h1).symm.trans hu)
 have g2:ws.toArray[j]=v:=by
   rw [List.getElem_toArray]
   exact Option.some.inj ((List.getElem?_eq_getElem h2).symm.trans hv)
 rw [g1,g2]
 exact qnm ru rv (List.all_eq_true.mp fx _ (List.mem_of_getElem? e1)) (List.all_eq_true.mp fy _ (List.mem_of_getElem? e2))
theorem qpQ (hu:X.A.units<cLine):OpR X (compareOp .Eq) (qpH X.K):=by
 intro pins s σ H x y v u Q I rx ry h
 obtain ⟨a,b,xs,ys,rfl,rfl,ha,hb,fx,fy,q⟩:=h
 cases rx
 cases ry
 obtain ⟨us,r1,p1,z1⟩:=I.list ha
 obtain ⟨ws,r2,p2,z2⟩:=I.list hb
 have l1:=r1.length
 have l2:=r2.length
 by_cases hl:xs.length=ys.length
 · refine SeqAt.eq_listAt p1.isList p2.isList (by simp only [List.size_toArray];omega) hu (fun j h1 h2=>qhr r1 r2 fx fy j h1 h2) ⟨.bl _,H,I,rfl,?_⟩
   have e:qgh xs ys=(List.range us.toArray.size).all fun j=>eqV (xs.getD j .non) (ys.getD j .non):=by
     unfold qgh
     rw [show (xs.length==ys.length)=true by simpa using hl,Bool.true_and,List.size_toArray,l1]
   rw [←e]
   exact q
 · refine SeqAt.eq_list_lengthsAt p1.isList p2.isList (by simp only [List.size_toArray,bne_iff_ne];omega) hu ⟨.bl _,H,I,rfl,?_⟩
   have e:qgh xs ys=false:=by
     unfold qgh
     rw [show (xs.length==ys.length)=false by simpa using hl,Bool.false_and]
   rw [←e]
   exact q
theorem qp2 (hu:X.A.units<cLine):OpR X (compareOp .NotEq) (qqn X.K):=by
 intro pins s σ H x y v u Q I rx ry h
 obtain ⟨a,b,xs,ys,rfl,rfl,ha,hb,fx,fy,q⟩:=h
 cases rx
 cases ry
 obtain ⟨us,r1,p1,z1⟩:=I.list ha
 obtain ⟨ws,r2,p2,z2⟩:=I.list hb
 have l1:=r1.length
 have l2:=r2.length
 by_cases hl:xs.length=ys.length
 · refine SeqAt.RcNeAt.lists p1.isList p2.isList (by simp only [List.size_toArray];omega) hu (fun j h1 h2=>qhr r1 r2 fx fy j h1 h2) X.prog X.w _ _ ⟨.bl _,H,I,rfl,?_⟩
   have e:qgh xs ys=(List.range us.toArray.size).all fun j=>eqV (xs.getD j .non) (ys.getD j .non):=by
     unfold qgh
     rw [show (xs.length==ys.length)=true by simpa using hl,Bool.true_and,List.size_toArray,l1]
   rw [←e]
   exact q
 · refine SeqAt.RcNeAt.lists_lengths p1.isList p2.isList (by simp only [List.size_toArray,bne_iff_ne];omega) hu X.prog X.w _ _ ⟨.bl _,H,I,rfl,?_⟩
   have e:qgh xs ys=false:=by
     unfold qgh
     rw [show (xs.length==ys.length)=false by simpa using hl,Bool.false_and]
   rw [e] at q
   exact q
def qoE (K:PySem.W.Frag):R2:=fun x y H Q=>∃l b xs zs,x = .ref l∧y = .ref b∧SqL K H l xs∧SqL K H b zs∧xs.length+zs.length≤sizeLine∧∀p,H p=none→Q (.ref p) (upd H p (.lst (xs++zs)))
theorem qpt:OpR X (binaryOp .Add) (qoE X.K):=by
 intro pins s σ H x y v u Q I rx ry h
 obtain ⟨l,b,xs,zs,rfl,rfl,hl,hb,hz,q⟩:=h
 cases rx
 cases ry
 obtain ⟨us,r1,p1,z1⟩:=I.list hl
 obtain ⟨ws,r2,p2,z2⟩:=I.list hb
 obtain ⟨⟨c1,d1,t1,s1⟩,n1,e1,ec1,ed1,et1⟩:=p1
 obtain ⟨⟨c2,d2,t2,s2⟩,n2,e2,ec2,ed2,et2⟩:=p2
 simp only at ec1 ed1 et1 ec2 ed2 et2
 subst ec1 ed1 et1 ec2 ed2 et2
 have l1:=r1.length
 have l2:=r2.length
 refine concat_meets ⟨_,e1,rfl⟩ ⟨_,e2,rfl⟩ noFill_list_add seq_list_add PySem.F.slot_list_add PySem.F.entry_list_add (PySem.F.args_list_add_2 _ _) (list_addW l b us.toArray ws.toArray n1 n2 none none s1 s2 (by simp only [List.size_toArray];omega)) ⟨e1,e2,?_⟩
 have ea:us.toArray++ws.toArray=(us++ws).toArray:=by simp
 rw [ea]
 exact ⟨.ref _,_,I.lnew (t':=s.toks) (r1.append r2) (by rw [List.length_append];omega),rfl,q _ I.fresh⟩
def qrK:V→V→Bool
 | .bl _,.bl _=>true
 | .non,.bl _=>true
 | .bl _,.non=>true
 | .non,.non=>true
 | .int _,.bl _=>true
 | .int _,.non=>true
 | .str _,.bl _=>true
 | .str _,.non=>true
 | .ref _,.bl _=>true
 | .ref _,.non=>true
 | _,_=>false
theorem qpC {x y:V} {v u:Value} (rx:qbE x v) (ry:qbE y u) (h:qrK x y=true):plainIs v u=true∧(v==u)=decide (x=y):=by
 cases x<;>cases y<;>first
   | exact absurd (show false=true from h) Bool.false_ne_true
   | (cases rx;cases ry;exact ⟨rfl,rfl⟩)
   | (cases rx;cases ry;rename_i a b;cases a<;>cases b<;>exact ⟨rfl,rfl⟩)
   | (obtain ⟨t,rfl⟩:=rx;cases ry;exact ⟨rfl,rfl⟩)
theorem qgA:OpR X (compareOp .Is) (fun x y H Q=>qrK x y=true∧Q (.bl (decide (x=y))) H):=by
 intro pins s σ H x y v u Q I rx ry h
 obtain ⟨e1,e2⟩:=qpC rx ry h.1
 exact wpAny_is_plain e1 ⟨.bl _,H,I,by rw [e2];rfl,h.2⟩
theorem qfo:OpR X (compareOp .IsNot) (fun x y H Q=>qrK x y=true∧Q (.bl (!decide (x=y))) H):=by
 intro pins s σ H x y v u Q I rx ry h
 obtain ⟨e1,e2⟩:=qpC rx ry h.1
 exact wpAny_isNot_plain e1 ⟨.bl _,H,I,by rw [e2];rfl,h.2⟩
theorem qlQ:MtR X "int.bit_length" (fun x vs H Q=>∃i,x = .int i∧vs=[]∧Q (.int (Builtin.Int.intBits i)) H):=by
 intro pins s σ H x vs v us Q I rx rv h
 obtain ⟨i,rfl,rfl,q⟩:=h
 obtain ⟨t,rfl⟩:=rx
 cases rv
 exact call_int_bit_length ⟨.int _,H,I.tok _,⟨_,rfl⟩,q⟩
theorem qeV {x:Str} {i:Int} {p:Pos} (h:∃t,X.mg x=some (.int i t)) (hg:Gl X x) (hd:(x==("__debug__" : Str))=false:=by decide):PE X (.Name x p) (tC (.int i)):=by
 obtain ⟨t,h⟩:=h
 exact qer hg h ⟨t,rfl⟩ hd
theorem qss {CX:CXT} {P:Program} {w:World} {K:PySem.W.Frag} {mg:Str→Option Value} {base:Heap} {N:List Str} {qual:Str} {scope:Scope} {f:Addr} {cd:Value} {A:Around} {outer:List Env} {s:Shared} {H:Hp} {E:XK} :
 (qo0 CX P w K mg base N qual scope f cd A outer s H E).K=K:=rfl
theorem qb5 {K:PySem.W.Frag} {H:Hp} {a:Addr} {xs:List V} (h:H a=some (.lst xs)):tyV K "list" (.ref a) H := .inl ⟨rfl,xs,SqL.of h⟩
theorem qo7 {K:PySem.W.Frag} {H:Hp} {a:Addr} {xs:List V}:tyV K "list" (.ref a) (upd H a (.lst xs))↔True:=⟨fun _=>trivial,fun _=>qb5 qai⟩
theorem qp3 {H:Hp} {a:Addr} {xs:List V} (h:H a=some (.lst xs)):qkf H (.ref a)=some "list" := by unfold qkf;dsimp only;rw [h]
theorem qau.upd {H H':Hp} {a:Addr} {o:HO} (e:qau H H') (h:H a=none):qau H (L2.upd H' a o):=fun b u q=>by
 rw [qaz (fun z=>by rw [z,h] at q;cases q)]
 exact e b u q
theorem qau.new {H:Hp} {a:Addr} {o:HO} (h:H a=none):qau H (L2.upd H a o):=(qau.refl H).upd h
section
variable {K:PySem.W.Frag} {H:Hp} {Q:VK} {i j:Int} {a:Addr} {b c:Bool} {z z':Str} {y:V} {g:Int→Int→V}
theorem qpp:qoE K (.int i) y H Q↔False:=⟨fun ⟨_,_,_,_,e,_⟩=>(nomatch e),False.elim⟩
theorem qqU:qpH K (.int i) y H Q↔False:=⟨fun ⟨_,_,_,_,e,_⟩=>(nomatch e),False.elim⟩
theorem qqz:qpH K (.bl b) y H Q↔False:=⟨fun ⟨_,_,_,_,e,_⟩=>(nomatch e),False.elim⟩
theorem qqa:qpH K (.str z) y H Q↔False:=⟨fun ⟨_,_,_,_,e,_⟩=>(nomatch e),False.elim⟩
theorem qpT:qpH K .non y H Q↔False:=⟨fun ⟨_,_,_,_,e,_⟩=>(nomatch e),False.elim⟩
theorem qqD:qqn K (.int i) y H Q↔False:=⟨fun ⟨_,_,_,_,e,_⟩=>(nomatch e),False.elim⟩
theorem qql:qqn K (.bl b) y H Q↔False:=⟨fun ⟨_,_,_,_,e,_⟩=>(nomatch e),False.elim⟩
theorem qpG:qqn K (.str z) y H Q↔False:=⟨fun ⟨_,_,_,_,e,_⟩=>(nomatch e),False.elim⟩
theorem qqk:qqn K .non y H Q↔False:=⟨fun ⟨_,_,_,_,e,_⟩=>(nomatch e),False.elim⟩
theorem qrM:rEq (.ref a) y H Q↔False:=⟨fun ⟨e,_⟩=>by cases y<;>exact absurd (show false=true from e) Bool.false_ne_true,False.elim⟩
theorem qry:rNe (.ref a) y H Q↔False:=⟨fun ⟨e,_⟩=>by cases y<;>exact absurd (show false=true from e) Bool.false_ne_true,False.elim⟩
theorem qrx:rEq (.int i) (.int j) H Q↔Q (.bl (decide (i=j))) H:=by unfold rEq;simp [show qmd (.int i) (.int j)=true from rfl]
theorem qrp:rNe (.int i) (.int j) H Q↔Q (.bl (!decide (i=j))) H:=by unfold rNe;simp [show qmd (.int i) (.int j)=true from rfl]
theorem qrq:rEq (.bl b) (.bl c) H Q↔Q (.bl (decide (b=c))) H:=by unfold rEq;simp [show qmd (.bl b) (.bl c)=true from rfl]
theorem qrA:rNe (.bl b) (.bl c) H Q↔Q (.bl (!decide (b=c))) H:=by unfold rNe;simp [show qmd (.bl b) (.bl c)=true from rfl]
theorem qrN:rEq (.str z) (.str z') H Q↔Q (.bl (decide (z=z'))) H:=by unfold rEq;simp [show qmd (.str z) (.str z')=true from rfl]
theorem qrz:rNe (.str z) (.str z') H Q↔Q (.bl (!decide (z=z'))) H:=by unfold rNe;simp [show qmd (.str z) (.str z')=true from rfl]
theorem qru:rI0 g (.ref a) y H Q↔False:=⟨fun ⟨_,_,e,_⟩=>(nomatch e),False.elim⟩
theorem qrS:rI0 g (.int i) (.int j) H Q↔Q (g i j) H:=⟨fun ⟨_,_,e,e',q⟩=>by cases e;cases e';exact q,fun q=>⟨i,j,rfl,rfl,q⟩⟩
theorem qsz {C:Int→Int→Prop}:rI C g (.int i) (.int j) H Q↔C i j∧Q (g i j) H:=⟨fun ⟨_,_,e,e',q⟩=>by cases e;cases e';exact q,fun q=>⟨i,j,rfl,rfl,q⟩⟩
theorem qjE {xs:List V}:qkB (.ref a) [y] (upd H a (.lst xs)) Q↔xs.length<sizeLine∧Q .non (upd H a (.lst (xs++[y]))):=by
 constructor
 · rintro ⟨l,ys,v,e1,e2,e3,e4,q⟩
   cases e1;cases e2
   rw [qai] at e3
   cases e3
   rw [qlH] at q
   exact ⟨e4,q⟩
 · rintro ⟨e,q⟩
   exact ⟨a,xs,y,rfl,rfl,qai,e,by rw [qlH];exact q⟩
theorem qaW (h0:0≤j) (h1:j≤1000) (h2:-1000≤i) (h3:i≤1000):qrw i j:=⟨h0,by omega,by omega⟩
end
def qet (J:It) (g:TG) (tb:TS) (D:qgd) (σ:St) (H:Hp):Prop:=∃W:Nat→Nat→St→Hp→Prop,(∃m,W 0 m σ H)∧∀i m σ H,W i m σ H →
 (J.stop i H∧D.nx σ H)∨(J.go i H∧∃N:St→Hp→Prop,(∀σ' H',N σ' H'→∃m',m'<m∧W (i+1) m' σ' H')∧∀x H',J.yld i H x H'→g x σ H' fun σ2 H2=>tb { D with nx:=N,ct:=N,bk:=D.nx } σ2 H2)
def qdo (J:It) (nt:Nat) (caps:List Nat) (g:TG) (tt:TT) (te:TE) (σ:St) (H:Hp) (Q:VK):Prop:=∃W:Nat→Nat→List V→Hp→Prop,(∃m,W 0 m [] H)∧∀i m ys H2,W i m ys H2 →
 (J.stop i H2∧ys.length≤sizeLine∧∀p,H2 p=none→Q (.ref p) (upd H2 p (.lst ys))) ∨
 (J.go i H2∧ys.length<sizeLine∧∀x H3,J.yld i H2 x H3→g x (qbm nt caps σ) H3 fun σ4 H4=>tt σ4 H4 fun b H5 =>
   if b=true then te σ4 H5 fun y H6=>∃m',m'<m∧W (i+1) m' (ys++[y]) H6 else ∃m',m'<m∧W (i+1) m' ys H5)
section
variable {K:PySem.W.Frag} {g:TG} {tb:TS} {D:qgd} {σ:St} {H:Hp} {a:Addr} {xs:List V} {tl:TE} {ta:TA} {nt:Nat} {caps:List Nat} {tt:TT} {te:TE} {Q:VK}
theorem qqT:qnl (qmn K tl) g tb D σ H↔tl σ H fun x H1=>∃a,x = .ref a∧(∃xs,SqL K H1 a xs)∧qet (Itl K a) g tb D σ H1:=Iff.rfl
theorem qoi:qnl (qn6 ta) g tb D σ H↔ta σ H fun vs H1=>∃j:Int,vs=[.int j]∧-(2^62)≤j∧j<2^62∧qet (Itr 0 j.toNat) g tb D σ H1:=Iff.rfl
theorem qoz:qnl (qpq ta) g tb D σ H↔ta σ H fun vs H1=>∃i j:Int,vs=[.int i,.int j]∧(-(2^62)≤i∧i<2^62∧-(2^62)≤j∧j<2^62)∧qet (Itr i (j-i).toNat) g tb D σ H1:=Iff.rfl
theorem qnY:qfV nt caps (qmn K tl) g tt te σ H Q↔tl σ H fun x H1=>∃a,x = .ref a∧(∃xs,SqL K H1 a xs)∧qdo (Itl K a) nt caps g tt te σ H1 Q:=Iff.rfl
theorem qmL:qfV nt caps (qn6 ta) g tt te σ H Q↔ta σ H fun vs H1=>∃j:Int,vs=[.int j]∧-(2^62)≤j∧j<2^62∧qdo (Itr 0 j.toNat) nt caps g tt te σ H1 Q:=Iff.rfl
theorem qmC:qfV nt caps (qpq ta) g tt te σ H Q↔ta σ H fun vs H1=>∃i j:Int,vs=[.int i,.int j]∧(-(2^62)≤i∧i<2^62∧-(2^62)≤j∧j<2^62)∧qdo (Itr i (j-i).toNat) nt caps g tt te σ H1 Q:=Iff.rfl
theorem qnV (Pv:Nat→St→Hp→Prop) (h0:Pv 0 σ H) (hl:∀i σ H,i≤xs.length→Pv i σ H→SqL K H a xs)
 (hs:∀i x σ H,xs[i]?=some x→Pv i σ H→g x σ H fun σ2 H2=>tb { D with nx:=Pv (i+1),ct:=Pv (i+1),bk:=D.nx } σ2 H2) (hd:∀σ H,Pv xs.length σ H→D.nx σ H):qet (Itl K a) g tb D σ H:=qmF Pv h0 hl hs hd
theorem qq9 {lo:Int} {n:Nat} (Pv:Nat→St→Hp→Prop) (h0:Pv 0 σ H)
 (hs:∀i σ H,i<n→Pv i σ H→g (.int (lo+i)) σ H fun σ2 H2=>tb { D with nx:=Pv (i+1),ct:=Pv (i+1),bk:=D.nx } σ2 H2) (hd:∀σ H,Pv n σ H→D.nx σ H):qet (Itr lo n) g tb D σ H:=qlJ Pv h0 hs hd
end
section
variable {t u t' u':TS} {te:TE} {g:TG} {c:TT} {D:qgd} {σ:St} {H:Hp} {wi:TI} {tb:TS}
theorem ql3:qk9 (qpx te g) u D σ H↔te σ H fun x H1=>g x σ H1 (u D):=Iff.rfl
theorem qkw:qk9 (qoe te) u D σ H↔te σ H fun _ H1=>u D σ H1:=Iff.rfl
theorem ql4:qk9 (qnl wi g tb) u D σ H↔qnl wi g tb { D with nx:=u D } σ H:=Iff.rfl
theorem qjM:qk9 (qjo c tb) u D σ H↔qjo c tb { D with nx:=u D } σ H:=Iff.rfl
theorem qmZ:qk9 (qpN c (qr1 te) qkD) u D σ H↔c σ H fun b H1=>if b=true then te σ H1 D.rt else u D σ H1:=Iff.rfl
theorem qoB:qpN c t u D σ H↔c σ H fun b H1=>if b=true then t D σ H1 else u D σ H1:=Iff.rfl
theorem qk2 (I:St→Hp→Prop) (h2:∀σ' H',I σ' H'→u D σ' H') (h1:∀N:St→Hp→Prop,(∀σ' H',I σ' H'→N σ' H')→t { D with nx:=N } σ H):qk9 t u D σ H:=h1 (u D) h2
end
theorem rdg {t:TS} {D:qgd} {σ σ':St} {H:Hp} (e:σ=σ') (h:t D σ' H):t D σ H:=e▸h
def qqC (K:PySem.W.Frag) (x y:V) (H:Hp) (b:Bool):Prop:=(qmd x y=true∧b=decide (x=y)) ∨
 ∃a c xs ys,x = .ref a∧y = .ref c∧SqL K H a xs∧SqL K H c ys∧xs.all qb0=true∧ys.all qb0=true∧b=qgh xs ys
def qmM (K:PySem.W.Frag):R2:=fun x y H Q=>∃b,qqC K x y H b∧Q (.bl b) H
def qmi (K:PySem.W.Frag):R2:=fun x y H Q=>∃b,qqC K x y H b∧Q (.bl (!b)) H
def qsy (K:PySem.W.Frag) (x y:V) (H:Hp) (v:V):Prop:=(∃p xs i,x = .ref p∧y = .int i∧SqL K H p xs∧atI xs i=some v)∨∃p xs i,x = .ref p∧y = .int i∧SqT K H p xs∧atI xs i=some v
def qrD (K:PySem.W.Frag):R2:=fun x y H Q=>∃v,qsy K x y H v∧Q v H
section
variable {K:PySem.W.Frag} {H:Hp} {Q:VK} {i j:Int} {a c:Addr} {b b':Bool} {z z':Str} {xs ys:List V}
theorem qnx:qqC K (.int i) (.int j) H b↔b=decide (i=j):=by
 constructor
 · rintro (⟨_,e⟩ | ⟨_,_,_,_,e,_⟩)
   · rw [e];simp
   · cases e
 · intro e;exact .inl ⟨rfl,by rw [e];simp⟩
theorem qnD {b'':Bool}:qqC K (.bl b') (.bl b) H b''↔b''=decide (b'=b):=by
 constructor
 · rintro (⟨_,e⟩ | ⟨_,_,_,_,e,_⟩)
   · rw [e];simp
   · cases e
 · intro e;exact .inl ⟨rfl,by rw [e];simp⟩
theorem qns:qqC K (.str z) (.str z') H b↔b=decide (z=z'):=by
 constructor
 · rintro (⟨_,e⟩ | ⟨_,_,_,_,e,_⟩)
   · rw [e];simp
   · cases e
 · intro e;exact .inl ⟨rfl,by rw [e];simp⟩
theorem qqg:qmM K (.int i) (.int j) H Q↔Q (.bl (decide (i=j))) H:=by unfold qmM;simp [qnx]
theorem qpI:qmi K (.int i) (.int j) H Q↔Q (.bl (!decide (i=j))) H:=by unfold qmi;simp [qnx]
theorem qqr:qmM K (.bl b) (.bl b') H Q↔Q (.bl (decide (b=b'))) H:=by unfold qmM;simp [qnD]
theorem qqe:qmi K (.bl b) (.bl b') H Q↔Q (.bl (!decide (b=b'))) H:=by unfold qmi;simp [qnD]
theorem qnz:qmM K (.str z) (.str z') H Q↔Q (.bl (decide (z=z'))) H:=by unfold qmM;simp [qns]
theorem qno:qmi K (.str z) (.str z') H Q↔Q (.bl (!decide (z=z'))) H:=by unfold qmi;simp [qns]
theorem qg5 (h1:SqL K H a xs) (h2:SqL K H c ys) (f1:xs.all qb0=true) (f2:ys.all qb0=true) (q:Q (.bl (qgh xs ys)) H):qmM K (.ref a) (.ref c) H Q:=⟨_,.inr ⟨a,c,xs,ys,rfl,rfl,h1,h2,f1,f2,rfl⟩,q⟩
theorem qqf (h1:SqL K H a xs) (h2:SqL K H c ys) (f1:xs.all qb0=true) (f2:ys.all qb0=true) (q:Q (.bl (!qgh xs ys)) H):qmi K (.ref a) (.ref c) H Q:=⟨_,.inr ⟨a,c,xs,ys,rfl,rfl,h1,h2,f1,f2,rfl⟩,q⟩
theorem qaT {v:V} (h:SqL K H a xs) (e:atI xs i=some v) (q:Q v H):qrD K (.ref a) (.int i) H Q:=⟨v,.inl ⟨a,xs,i,rfl,rfl,h,e⟩,q⟩
theorem qcy {v:V} (h:SqT K H a xs) (e:atI xs i=some v) (q:Q v H):qrD K (.ref a) (.int i) H Q:=⟨v,.inr ⟨a,xs,i,rfl,rfl,h,e⟩,q⟩
theorem qay (h:X.K=K) (hu:X.A.units<cLine):OpR X (compareOp .Eq) (qmM K):=by
 subst h
 intro pins s σ H x y v u Q I rx ry q
 obtain ⟨b,hb,q⟩:=q
 rcases hb with ⟨hs,rfl⟩ | ⟨a,c,xs,ys,rfl,rfl,h1,h2,f1,f2,rfl⟩
 · exact qrO pins s σ H x y v u Q I rx ry ⟨hs,q⟩
 · exact qpQ hu pins s σ H _ _ v u Q I rx ry ⟨a,c,xs,ys,rfl,rfl,h1,h2,f1,f2,q⟩
theorem qbC (h:X.K=K) (hu:X.A.units<cLine):OpR X (compareOp .NotEq) (qmi K):=by
 subst h
 intro pins s σ H x y v u Q I rx ry q
 obtain ⟨b,hb,q⟩:=q
 rcases hb with ⟨hs,rfl⟩ | ⟨a,c,xs,ys,rfl,rfl,h1,h2,f1,f2,rfl⟩
 · exact qrR pins s σ H x y v u Q I rx ry ⟨hs,q⟩
 · exact qp2 hu pins s σ H _ _ v u Q I rx ry ⟨a,c,xs,ys,rfl,rfl,h1,h2,f1,f2,q⟩
theorem qfc (h:X.K=K):OpR X (binaryOp .Add) (qoE K):=h▸qpt
theorem qnQ (h:X.K=K):OpR X (compareOp .In) (rIn K false):=h▸qls
theorem qfi (h:X.K=K):OpR X (compareOp .NotIn) (rIn K true):=h▸qhP
theorem qn2 {r r':R2} (h:IxR X r) (hr:∀x y H Q,r' x y H Q→r x y H Q):IxR X r' :=
 fun value slice pins s σ H x y v u Q I rx ry q e=>h value slice pins s σ H x y v u Q I rx ry (hr _ _ _ _ q) e
theorem qbF (h:X.K=K):IxR X (qrD K):=by
 subst h
 refine qn2 qqY fun x y H Q q=>?_
 obtain ⟨z,hz,q⟩:=q
 rcases hz with ⟨p,xs,i,e1,e2,e3,e4⟩ | ⟨p,xs,i,e1,e2,e3,e4⟩
 · exact .inl ⟨p,xs,i,z,e1,e2,e3,e4,q⟩
 · exact .inr (.inl ⟨p,xs,i,z,e1,e2,e3,e4,q⟩)
theorem qaN (h:X.K=K):qcV X (.builtin "len") (fun xs H Q=>∃p ys,xs=[.ref p]∧(SqL K H p ys∨SqT K H p ys)∧Q (.int ys.length) H):=h▸qhv
theorem qnP (h:X.K=K):SlR X (qsg K):=h▸qod
end
def sp1 (R:V→Hp→VK→Prop):Sp:=fun vs H Q _=>∃a,vs=[a]∧R a H Q
def sp2 (R:V→V→Hp→VK→Prop):Sp:=fun vs H Q _=>∃a b,vs=[a,b]∧R a b H Q
def sp3 (R:V→V→V→Hp→VK→Prop):Sp:=fun vs H Q _=>∃a b c,vs=[a,b,c]∧R a b c H Q
def sp4 (R:V→V→V→V→Hp→VK→Prop):Sp:=fun vs H Q _=>∃a b c d,vs=[a,b,c,d]∧R a b c d H Q
def qlM (K:PySem.W.Frag):Sp:=sp1 fun x H Q=>∃(a:Addr) (ns:List Int),x = .ref a∧SqL K H a (ns.map V.int)∧ns.length≤63∧∀H',Q (.bl true) H'
end
end L2
namespace Tim
open PySem PyProof.Rows
section
variable {prog:Program} {w:World} {A:Around} {E:Value→Shared→Prop} {s:Shared}
theorem sort_any {a:Addr} {vs:List Value} {ns:List Int} {n:Nat} {P:Fin→Shared→Prop} (at0:s.heap.get? a=some (seqObj "list" vs.toArray n)) (hI:IntsAre vs ns) (hz:vs.length≤63)
   (h:∀(out:Array Value) (ms:List Int),IntsAre out.toList ms→ms.Perm ns→ms.Pairwise (·≤·)→P (.done (.ret .none)) { s with heap:=sortedHeap s.heap a vs out }) :
   wpAny (model prog w) A (Builtin.«list.sort» ⟨[.ref a],[]⟩) P E s:=by
 exact list_sort_tree at0 hI (by omega) h
theorem sorted_any {l:Addr} {vs:List Value} {ns:List Int} {Q:Value→Shared→Prop} (hl:s.heap.IsList l vs.toArray) (hI:IntsAre vs ns) (hz:vs.length≤63)
   (h:∀(out:Array Value) (ms:List Int),IntsAre out.toList ms→ms.Perm ns→ms.Pairwise (·≤·)→Q (.ref (s.heap.objs.size+1)) { s with heap:=sortedAll s.heap vs out }) :
   wpAny (model prog w) A (call (.builtin "sorted") [.ref l]) Q E s:=by
 have lim:vs.length≤sizeLine:=by rw [sizeLine_eq];omega
 refine Calls.call_function_entry kind_sorted plain_sorted entry_sorted (args_sorted1 _) (wpAny_bind (m:=checkCount "sorted" 1 1 _) (wpAny_pure (wpAny_bind (collect_list hl (wpAny_bind (wpAny_newList ?_ lim)) lim))))
 have e:((s.heap.push (seqObj "list" #[] 0)).update s.heap.objs.size (Obj.mapSeq (·++vs.toArray))).objs.size=s.heap.objs.size+1:=by rw [Heap.size_update];exact size_push' _ _
 have at0:(((s.heap.push (seqObj "list" #[] 0)).update s.heap.objs.size (Obj.mapSeq (·++vs.toArray))).push (seqObj "list" vs.toArray 0)).get? (s.heap.objs.size+1)=some (seqObj "list" vs.toArray 0):=e▸Heap.get?_push_size _ rfl
 dsimp only
 rw [e]
 exact wpAny_bind (wpAny_holding (wpAny_call_entry slot_list_sort ⟨_,at0,rfl⟩ entry_list_sort (sort_any at0 hI hz fun out ms m1 m2 m3=>⟨_,rfl,wpAny_pure ⟨_,rfl,h out ms m1 m2 m3⟩⟩) (args_list_sort _)))
end
end Tim
namespace STb
open PySem PySem.SetTable PyProof.Rows
section
variable {prog:Program} {w:World} {A:Around} {E:Value→Shared→Prop} {s:Shared} {I S:Addr}
theorem qj0 {ns:List Int} {Q:Value→Shared→Prop} (hh:A.handled=none) (r:RS prog w s.heap S ns) (hbig:ns.length≤63)
   (h:∀(l:Addr) (vs:List Value) (ms:List Int) (n:Nat) (s':Shared),IntsAre vs ms→ms.Perm ns→ms.Pairwise (·≤·)→s.heap.objs.size≤l→s'.heap.get? l=some { cls := .type "list",data := .seq vs.toArray n } →
     (∀b o,s.heap.get? b=some o→s'.heap.get? b=some o)→s'.gens=s.gens→s'.os=s.os→Q (.ref l) s') :
   wpAny (model prog w) A (call (.builtin "sorted") [.ref S]) Q E s:=by
 refine Calls.call_function_entry kind_sorted plain_sorted entry_sorted (args_sorted1 _) ?_
 unfold Builtin.«sorted»
 refine wpAny_bind (m:=checkCount "sorted" 1 1 _) (wpAny_pure ?_)
 have hhs:∀{A':Around},A'.handled=A.handled→A'.handled=none:=fun e=>e.trans hh
 refine wpAny_bind (qiV (by first | exact hh | simp [hh]) r fun s1 vs ms hi hp kp szl eg eo=>?_)
 have hv:vs.length≤63:=by
   have e1:=hi.length
   have e2:=hp.length_eq
   omega
 have hz:vs.length≤sizeLine:=Nat.le_trans hv (by decide)
 refine wpAny_bind (wpAny_newList ?_ hz)
 have g1:(s1.heap.push (seqObj "list" vs.toArray 0)).get? s1.heap.objs.size=some (seqObj "list" vs.toArray 0):=Heap.get?_push_size _ rfl
 refine wpAny_bind (wpAny_holding (wpAny_call_entry slot_list_sort ⟨_,g1,rfl⟩ entry_list_sort (Tim.sort_any g1 hi hv fun out ns' a1 a2 a3=>⟨_,rfl,?_⟩) (args_list_sort _)))
 obtain ⟨e,he⟩:∃e,(sortedHeap (s1.heap.push (seqObj "list" vs.toArray 0)) s1.heap.objs.size vs out).get? s1.heap.objs.size=some (seqObj "list" out e):=sortedHeap_at g1
 have hle:s.heap.objs.size≤s1.heap.objs.size:=Nat.le_of_lt szl
 refine wpAny_pure ⟨_,rfl,h _ out.toList ns' e _ a1 (a2.trans hp) a3 hle (by rw [Array.toArray_toList];exact he) (fun b o q=>?_) eg eo⟩
 have q1:=kp b o q
 have hb:b<s1.heap.objs.size:=Heap.lt_size q1
 show (sortedHeap (s1.heap.push (seqObj "list" vs.toArray 0)) s1.heap.objs.size vs out).get? b=some o
 rw [sortedHeap_old (Nat.ne_of_lt hb) (by rw [size_push'];exact Nat.lt_succ_of_lt hb)]
 exact Heap.get?_push_of_some _ q1
end
end STb
namespace L2
open PySem PySem.Spec PyProof.Rows STb
def qkC (P:Program) (w:World) (a:Addr) (ns:List Int):HO := .ext fun h=>RS P w h a ns
def qeO (ns:List Int):List Int:=ns.foldl qdC []
theorem qe9 (ns:List Int):qcB (fun i=>ns.getD i 0) ns.length=qeO ns:=by
 unfold qcB qeO
 congr 1
 refine List.ext_getElem (by simp) fun i h1 h2=>?_
 have:i<ns.length:=by simpa using h1
 simp [List.getD,this]
theorem qdM {ns:List Int} {k:Int}:k∈qeO ns↔k∈ns:=by
 have key:∀(l acc:List Int),k∈l.foldl qdC acc↔k∈acc∨k∈l:=fun l=>by
   induction l with
   | nil=>intro acc;simp
   | cons x r ih =>
     intro acc
     rw [List.foldl_cons,ih,qhI,List.mem_cons,or_assoc]
 rw [qeO,key]
 simp
theorem qe6 (ns:List Int):(qeO ns).Nodup:=by
 have key:∀(l acc:List Int),acc.Nodup→(l.foldl qdC acc).Nodup:=fun l=>by
   induction l with
   | nil=>intro acc h;exact h
   | cons x r ih=>intro acc h;exact ih _ (qhl h)
 exact key ns [] List.nodup_nil
theorem qea (ns:List Int):(qeO ns).length≤ns.length:=by
 rw [←qe9]
 exact qfh _ _
theorem qfa (val:Nat→Int):∀i,(qcB val i).Nodup
 | 0=>by simp [qcB]
 | i+1=>by
   rw [qdi]
   exact qhl (qfa val i)
theorem qiA:∀(n:Nat) (L:List Nat),L.Nodup→(∀x∈L,x<n)→L.length≤n
 | 0,L,_,h=>by
   cases L with
   | nil=>exact Nat.le_refl _
   | cons a r=>exact absurd (h a (by simp)) (by omega)
 | n+1,L,hn,h=>by
   by_cases hm:n∈L
   · have h1:=qiA n (L.erase n) (hn.erase n) fun x hx=>by
       obtain ⟨h2,h3⟩:=hn.mem_erase_iff.mp hx
       have:=h x h3
       omega
     rw [List.length_erase_of_mem hm] at h1
     omega
   · have:=qiA n L hn fun x hx=>by
       have:=h x hx
       have:x≠n:=fun z=>hm (z▸hx)
       omega
     omega
theorem qqV {L:List Int} (hn:L.Nodup) (h:∀z∈L,0≤z∧z<1000):L.length≤1000:=by
 have:=qiA 1000 (L.map Int.toNat) (by
   unfold List.Nodup
   rw [List.pairwise_map]
   refine List.Pairwise.imp_of_mem (fun {a b} ha hb e=>?_) hn
   have:=h a ha
   have:=h b hb
   omega) fun x hx=>by
   obtain ⟨z,hz,rfl⟩:=List.mem_map.mp hx
   have:=h z hz
   omega
 simpa using this
section
variable {X:Cx} {P:Program} {w:World} {K:PySem.W.Frag}
def qoR (P:Program) (w:World) (K:PySem.W.Frag):List V→Hp→VK→Prop:=fun xs H Q=>∃(p:Addr) (ns:List Int),xs=[.ref p]∧SqL K H p (ns.map V.int)∧(ns.length≤1000∨∀z∈ns,0≤z∧z<1000)∧∀a,H a=none→Q (.ref a) (upd H a (qkC P w a (qeO ns)))
theorem qkg (hP:X.prog=P) (hw:X.w=w) (hK:X.K=K) (hc:X.calm=true):qcV X (.type "set") (qoR P w K):=by
 subst hP hw hK
 intro pins s σ H xs us Q I r h
 obtain ⟨p,ns,rfl,hq,hl,q⟩:=h
 obtain ⟨u,rfl,ru⟩:=qdD r
 cases ru
 obtain ⟨its,rv,pl,hz⟩:=I.list hq
 have hi:IntsAre its ns:=qem rv
 have hle:=hi.length
 have few:∀i,i≤its.toArray.size→(qcB (fun i=>ns.getD i 0) i).length+1<scanBound:=fun i hi'=>by
   show _<4096
   rw [List.size_toArray] at hi'
   rcases hl with hl | hl
   · have:=qfh (fun i=>ns.getD i 0) i
     omega
   · have h1:∀i,i≤ns.length→(qcB (fun i=>ns.getD i 0) i).Nodup:=fun i _=>qfa _ i
     have h2:=qqV (h1 i (by omega)) fun z hz=>by
       obtain ⟨j,hj,rfl⟩:=(qhY _ _ _).mp hz
       have hj2:j<ns.length:=by omega
       rw [List.getD_eq_getElem?_getD,List.getElem?_eq_getElem hj2]
       exact hl _ (List.getElem_mem hj2)
     omega
 refine qk4 (I.ok.hd hc) pl.isList (by simpa using hi) few fun h' tk rs kp=>?_
 have em:qcB (fun i=>ns.getD i 0) its.toArray.size=qeO ns:=by
   have e:its.toArray.size=ns.length:=by simp [hle]
   rw [e,qe9]
 rw [em] at rs
 refine ⟨.ref _,_,I.laid (a:=s.heap.objs.size) (o:=qkC X.prog X.w s.heap.objs.size (qeO ns)) (t':=tk) (fun b o e=>kp b o (Heap.lt_size e) e) (Nat.le_refl _) ⟨rs,?_,fun h1 h2 r1 k=>r1.keep k⟩,rfl,q _ I.fresh⟩
 obtain ⟨es,ep,t,e,_⟩:=rs
 exact ⟨_,e⟩
def qpF (P:Program) (w:World) (K:PySem.W.Frag):List V→Hp→VK→Prop:=fun xs H Q=>∃(p:Addr) (ns:List Int),xs=[.ref p]∧SqL K H p (ns.map V.int)∧ns.length≤1000∧∀a,H a=none→Q (.ref a) (upd H a (qkC P w a (qeO ns)))
theorem qfC (hP:X.prog=P) (hw:X.w=w) (hK:X.K=K) (hc:X.calm=true):qcV X (.type "set") (qpF P w K):=by
 intro pins s σ H xs us Q I r h
 obtain ⟨p,ns,e,hq,hl,q⟩:=h
 exact qkg hP hw hK hc pins s σ H xs us Q I r ⟨p,ns,e,hq,.inl hl,q⟩
def qpY (P:Program) (w:World):List V→Hp→VK→Prop:=fun xs H Q=>∃(a:Addr) (ns:List Int),xs=[.ref a]∧H a=some (qkC P w a ns)∧ns.length≤63∧∀(l:Addr) (ms:List Int),H l=none→ms.Perm ns→ms.Pairwise (·≤·)→Q (.ref l) (upd H l (.lst (ms.map V.int)))
theorem qj5 (hP:X.prog=P) (hw:X.w=w) (hc:X.calm=true):qcV X (.builtin "sorted") (qpY P w):=by
 subst hP hw
 intro pins s σ H xs us Q I r h
 obtain ⟨a,ns,rfl,ha,hl,q⟩:=h
 obtain ⟨u,rfl,ru⟩:=qdD r
 cases ru
 have rs:RS X.prog X.w s.heap a ns:=(I.hok a _ ha).1
 refine qj0 (I.ok.hd hc) rs hl fun l vs ms n s' hi hp pw hle g kp eg eo=>?_
 obtain ⟨h',g',d',t',o'⟩:=s'
 have e1:o'=s.os:=eo
 have e2:g'=s.gens:=eg
 subst e1 e2
 have hn:H l=none:=I.hok.fresh hle
 have e3:=hi.length
 have e4:=hp.length_eq
 have hok:=I.hok.laid (h':=h') (a:=l) (o := .lst (ms.map V.int)) kp hle ⟨by rw [List.length_map];exact Nat.le_trans (show ms.length≤63 by omega) (by decide),vs,n,qdH hi,g⟩
 refine ⟨.ref l,_,I.call' (s':=⟨h',s.gens,d',t',s.os⟩) (ch:=[]) rfl (Un.laid kp hle hn) hok I.bare (fun _ z=>nomatch z),rfl,q l ms hn hp pw⟩
def qq1 (K:PySem.W.Frag):List V→Hp→VK→Prop:=fun xs H Q=>∃(p:Addr) (ns:List Int),xs=[.ref p]∧SqL K H p (ns.map V.int)∧ns.length≤63∧∀(l:Addr) (ms:List Int),H l=none→ms.Perm ns→ms.Pairwise (·≤·)→Q (.ref l) (upd H l (.lst (ms.map V.int)))
theorem qjL (hK:X.K=K):qcV X (.builtin "sorted") (qq1 K):=by
 subst hK
 intro pins s σ H xs us Q I r h
 obtain ⟨p,ns,rfl,hq,hl,q⟩:=h
 obtain ⟨u,rfl,ru⟩:=qdD r
 cases ru
 obtain ⟨its,rv,pl,hz⟩:=I.list hq
 have hi:IntsAre its ns:=qem rv
 have hle:=hi.length
 refine Tim.sorted_any pl.isList hi (by omega) fun out ms a1 a2 a3=>?_
 obtain ⟨e,he⟩:=sortedAll_at s.heap its out
 have hn:H (s.heap.objs.size+1)=none:=I.hok.fresh (Nat.le_succ _)
 have e4:=a2.length_eq
 refine ⟨.ref _,_,I.laid (a:=s.heap.objs.size+1) (o := .lst (ms.map V.int)) (t':=s.toks) (fun b o z=>sortedAll_old z) (Nat.le_succ _) ⟨by rw [List.length_map];exact Nat.le_trans (show ms.length≤63 by omega) (by decide),out.toList,e,qdH a1,by rw [Array.toArray_toList];exact he⟩,rfl,q _ ms hn a2 a3⟩
def qqi (P:Program) (w:World) (K:PySem.W.Frag):List V→Hp→VK→Prop:=fun xs H Q=>∃(a:Addr) (ns:List Int),xs=[.ref a]∧(SqL K H a (ns.map V.int)∨H a=some (qkC P w a ns))∧ns.length≤63 ∧
 ∀(l:Addr) (ms:List Int),H l=none→ms.Perm ns→ms.Pairwise (·≤·)→Q (.ref l) (upd H l (.lst (ms.map V.int)))
theorem qej (hP:X.prog=P) (hw:X.w=w) (hK:X.K=K) (hc:X.calm=true):qcV X (.builtin "sorted") (qqi P w K):=by
 intro pins s σ H xs us Q I r h
 obtain ⟨a,ns,rfl,h1 | h1,hl,q⟩:=h
 · exact qjL hK pins s σ H _ us Q I r ⟨a,ns,rfl,h1,hl,q⟩
 · exact qj5 hP hw hc pins s σ H _ us Q I r ⟨a,ns,rfl,h1,hl,q⟩
end
end L2
namespace L2
open PySem PySem.Spec PyProof.Rows
theorem qb3 (a b:Nat):Builtin.bitAnd (a:Int) (b:Int)=((a&&&b:Nat):Int):=by
 rw [bitAnd_pp (by omega) (by omega)]
 rfl
theorem qfg (a b:Nat):Builtin.bitOr (a:Int) (b:Int)=((a|||b:Nat):Int):=by
 rw [bitOr_and,qb3]
 have h:∀n (a b:Nat),a<2^n→a+b=(a|||b)+(a&&&b):=by
   intro n
   induction n with
   | zero =>
     intro a b ha
     have:a=0:=by omega
     subst this
     simp
   | succ n ih =>
     intro a b ha
     have q:=ih (a/2) (b/2) (by rw [Nat.pow_succ] at ha;omega)
     have e1:(a|||b)/2=a/2|||b/2:=Nat.or_div_two
     have e2:(a&&&b)/2=a/2&&&b/2:=Nat.and_div_two
     have m1:(a|||b)%2=if a%2=1∨b%2=1 then 1 else 0:=by
       have:=Nat.testBit_or a b 0
       simp only [Nat.testBit_zero] at this
       rcases Nat.mod_two_eq_zero_or_one (a|||b) with z | z<;>rcases Nat.mod_two_eq_zero_or_one a with z1 | z1<;>rcases Nat.mod_two_eq_zero_or_one b with z2 | z2<;>simp [z,z1,z2] at this ⊢
     have m2:(a&&&b)%2=if a%2=1∧b%2=1 then 1 else 0:=by
       have:=Nat.testBit_and a b 0
       simp only [Nat.testBit_zero] at this
       rcases Nat.mod_two_eq_zero_or_one (a&&&b) with z | z<;>rcases Nat.mod_two_eq_zero_or_one a with z1 | z1<;>rcases Nat.mod_two_eq_zero_or_one b with z2 | z2<;>simp [z,z1,z2] at this ⊢
     rw [←e1,←e2] at q
     clear ih e1 e2 ha
     generalize (a|||b)=x at q m1 ⊢
     generalize (a&&&b)=y at q m2 ⊢
     split at m1<;>split at m2<;>omega
 have:=h (a+1) a b (Nat.lt_of_lt_of_le (Nat.lt_succ_self a) (Nat.le_of_lt Nat.lt_two_pow_self))
 omega
theorem qmt {i:Int} {ns:List Int}:inV (.int i) (ns.map V.int)=decide (i∈ns):=by
 unfold inV
 rw [Bool.eq_iff_iff,List.any_eq_true,decide_eq_true_eq]
 constructor
 · rintro ⟨x,hx,e⟩
   obtain ⟨z,hz,rfl⟩:=List.mem_map.mp hx
   have:z=i:=by simpa [eqV] using e
   exact this▸hz
 · intro h
   exact ⟨.int i,List.mem_map.mpr ⟨i,h,rfl⟩,by simp [eqV]⟩
theorem qks (ns:List Int):(ns.map V.int).all qb0=true:=by
 rw [List.all_eq_true]
 intro x hx
 obtain ⟨z,_,rfl⟩:=List.mem_map.mp hx
 rfl
theorem qhh (k:Nat):(2:Int)^k=((2^k:Nat):Int):=by
 rw [Int.natCast_pow]
 rfl
end L2
namespace L2
open PySem PySem.Spec PyProof.Rows
section
variable {X:Cx} {K:PySem.W.Frag}
theorem qkx (hc:X.calm=true) (hK:X.K=K):qcV X (.builtin "sum") (fun xs H Q=>∃(p:Addr) (ns:List Int),xs=[.ref p]∧SqL K H p (ns.map V.int)∧Q (.int ns.sum) H):=by
 subst hK
 intro pins s σ H xs us Q I r h
 obtain ⟨p,ns,rfl,hq,q⟩:=h
 obtain ⟨u,rfl,ru⟩:=qdD r
 cases ru
 obtain ⟨its,rv,pl,hz⟩:=I.list hq
 have hi:IntsAre its ns:=qem rv
 obtain ⟨zs,hx⟩:=hi.allInts.items
 refine sum_intListG (I.ok.hd hc) (hx▸pl.isList) fun h' tk t' kp=>?_
 have e:preSum (numAt zs) zs.size=ns.sum:=by
   have e1:numsOf its.toArray.toList=ns:=hi.numsOf
   rw [preSum_eq,List.take_of_length_le (by simp),←nums_intItems,←hx,e1]
 rw [e]
 exact ⟨.int _,H,I.kept (t':=tk) kp,⟨t',rfl⟩,q⟩
def qsn (K:PySem.W.Frag) (te:TE):TE:=fun σ H Q=>te σ H fun x H1=>∃a xs,x = .ref a∧SqL K H1 a xs∧∀p,H1 p=none→Q (.ref p) (upd H1 p (.lst xs.reverse))
def Itv (K:PySem.W.Frag) (a:Addr) (xs:List V):It:=⟨fun i H=>SqL K H a xs∧i<xs.length,fun i H x H'=>H'=H∧xs.reverse[i]?=some x,fun i H=>SqL K H a xs∧xs.length≤i⟩
theorem qnd {P:Program} {w:World} {K:PySem.W.Frag} {tg:Expr} (a it:Addr) (xs:List V):ql2 P w K tg (Itv K a xs) [it] it (fun i h=>i≤xs.length∧h.IsRevIter it a ((xs.length:Int)-1-i)) where
 mem:=by simp
 obj:=fun i h st b hb=>by
   obtain rfl:b=it:=by simpa using hb
   obtain ⟨_,o,e,c,d⟩:=st
   exact ⟨o,e,fun v z=>by rw [d] at z;cases z⟩
 keep:=fun i h h' st k=>⟨st.1,st.2.at fun o e=>k it (by simp) o e⟩
 item:=by
   intro X hP hw hK hc i pins s σ H E I hf st hg
   subst hP hw hK
   obtain ⟨hq,hi⟩:=hg
   obtain ⟨its,rv,p,hz⟩:=I.list hq
   have hl:=rv.length
   obtain ⟨f0,f1,f2,f3,f4,f5⟩:=hf it (by simp)
   have hx:xs[xs.length-1-i]?=some (xs[xs.length-1-i]'(by omega)):=List.getElem?_eq_getElem (by omega)
   obtain ⟨u,hu,ru⟩:=rv.get hx
   have e1:(xs.length:Int)-1-(i:Int)=((xs.length-1-i:Nat):Int):=by omega
   have e2:((xs.length-1-i:Nat):Int)-1=(xs.length:Int)-1-((i+1:Nat):Int):=by omega
   have st2:=st.2
   rw [e1] at st2
   refine wpAny_pyNext_rev_item st2 p.isList (x:=u) (by simpa using hu) fun h' st' sb=>?_
   rw [e2] at st'
   have I1:Inv X pins σ H { s with heap:=h' }:=I.turned (t':=s.toks) (fun b o hb e=>(sb.2 b hb).trans e) f0 f1 f3 f4 f5
   obtain ⟨o,e,c,d⟩:=id st'
   refine ⟨u,rfl,qkV (s:={ s with heap:=h' }) e c d (by decide) ⟨_,H,I1,ru,⟨rfl,?_⟩,⟨hi,st'⟩,fun b hb=>(hf b hb).1⟩⟩
   rw [List.getElem?_reverse hi]
   exact hx
 done:=by
   intro X hP hw hK hc i pins s σ H E I hf st hg
   subst hP hw hK
   obtain ⟨hq,hi⟩:=hg
   obtain ⟨f0,f1,f2,f3,f4,f5⟩:=hf it (by simp)
   have e1:(xs.length:Int)-1-(i:Int) = -1:=by have:=st.1;omega
   have st2:=st.2
   rw [e1] at st2
   exact wpAny_pyNext_rev_end (I.ok.hd hc) st2 fun h' eb=>⟨rfl,I.turned (t':=s.toks) (fun b o hb e=>eb b o hb e) f0 f1 f3 f4 f5⟩
 self:=fun _ _ _ _ _ st h=>wpAny_pyIter_revIter st.2 h
def qsh (K:PySem.W.Frag) (ta:TA):TI:=fun σ H R=>ta σ H fun vs H1=>∃a xs,vs=[.ref a]∧SqL K H1 a xs∧R (Itv K a xs) H1
theorem qiN {a tg:Expr} {ta:TA} {p pos:Pos} (hK:X.K=K) (hg:Gl X "reversed") (hm:X.mg "reversed" = none) (ha:PA X [a] ta) (hs:starEach [a] X.env=[(false,eval a X.env)]:=by rfl):PI X tg (.Call (.Name "reversed" p) [a] [] pos) (qsh K ta):=by
 subst hK
 intro pins s σ H R I h
 refine Call_ (qeE I hg hm PyProof.Rows.boot_reversed (PyProof.Rows.callWith_type1 (thn (ha pos pins s σ H _ I h) fun us s1 ⟨vs,H1,I1,r1,q1⟩=>?_) hs rfl))
 obtain ⟨b,xs,rfl,hq,q⟩:=q1
 obtain ⟨u,rfl,ru⟩:=qdD r1
 cases ru
 obtain ⟨its,rv,pl,hz⟩:=I1.list hq
 have hl:=rv.length
 refine call_reversed_list pl.isList ?_
 have e:(its.toArray.size:Int)-1=(xs.length:Int)-1-((0:Nat):Int):=by rw [List.size_toArray];omega
 rw [e]
 have I2:Inv X pins σ H1 { s1 with heap:=s1.heap.push (revObj b ((xs.length:Int)-1-((0:Nat):Int))) }:=I1.kept (t':=s1.toks) fun c o e=>Heap.get?_push_of_some _ e
 have at0:(s1.heap.push (revObj b ((xs.length:Int)-1-((0:Nat):Int)))).IsRevIter s1.heap.objs.size b ((xs.length:Int)-1-((0:Nat):Int)):=⟨_,Heap.get?_push_size _ rfl,rfl,rfl⟩
 refine wpAny_pyIter_revIter at0 ⟨s1.heap.objs.size,[s1.heap.objs.size],_,_,H1,rfl,I2,qnd b _ xs,⟨Nat.zero_le _,at0⟩,fun c hb=>?_,q⟩
 obtain rfl:c=s1.heap.objs.size:=by simpa using hb
 exact I1.fpOk (Nat.le_refl _) (I1.hok.fresh (Nat.le_refl _))
end
section
variable {K:PySem.W.Frag} {g:TG} {tb:TS} {D:qgd} {σ:St} {H:Hp} {a:Addr} {xs:List V} {ta:TA}
theorem qpf:qnl (qsh K ta) g tb D σ H↔ta σ H fun vs H1=>∃a xs,vs=[.ref a]∧SqL K H1 a xs∧qet (Itv K a xs) g tb D σ H1:=Iff.rfl
theorem qrr (Pv:Nat→St→Hp→Prop) (h0:Pv 0 σ H) (hl:∀i σ H,i≤xs.length→Pv i σ H→SqL K H a xs)
   (hs:∀i x σ H,xs.reverse[i]?=some x→Pv i σ H→g x σ H fun σ2 H2=>tb { D with nx:=Pv (i+1),ct:=Pv (i+1),bk:=D.nx } σ2 H2) (hd:∀σ H,Pv xs.length σ H→D.nx σ H):qet (Itv K a xs) g tb D σ H:=by
 refine ⟨fun i m σ H=>m=xs.length-i∧i≤xs.length∧Pv i σ H,⟨_,rfl,Nat.zero_le _,h0⟩,?_⟩
 rintro i m σ H ⟨rfl,hi,p⟩
 by_cases hlt:i<xs.length
 · refine .inr ⟨⟨hl i σ H hi p,hlt⟩,Pv (i+1),fun σ' H' q=>⟨xs.length-(i+1),by omega,rfl,hlt,q⟩,fun x H' y=>?_⟩
   obtain ⟨rfl,y⟩:=y
   exact hs i x σ _ y p
 · obtain rfl:i=xs.length:=by omega
   exact .inl ⟨⟨hl _ σ H hi p,Nat.le_refl _⟩,hd σ H p⟩
end
end L2
namespace L2
open PySem PySem.Spec PyProof.Rows
abbrev nI (fs:List Nat):List Int:=fs.map fun (n:Nat)=>(n:Int)
abbrev nV (fs:List Nat):List V:=(nI fs).map V.int
theorem qbz (fs:List Nat):(nV fs).length=fs.length:=by simp
theorem qkk {fs:List Nat} {i:Nat} {x:V} (h:(nV fs)[i]?=some x):∃a,fs[i]?=some a∧x = .int (a:Nat):=by
 rw [List.getElem?_map,List.getElem?_map] at h
 cases e:fs[i]? with
 | none=>rw [e] at h;cases h
 | some a=>rw [e] at h;cases h;exact ⟨a,rfl,rfl⟩
theorem qjU {fs:List Nat} {i a:Nat} (h:fs[i]?=some a):(nV fs)[i]?=some (.int (a:Nat)):=by
 rw [List.getElem?_map,List.getElem?_map,h]
 rfl
theorem qnk {fs:List Nat} {x:V} (h:x∈nV fs):∃a∈fs,x = .int (a:Nat):=by
 obtain ⟨z,hz,rfl⟩:=List.mem_map.mp h
 obtain ⟨a,ha,rfl⟩:=List.mem_map.mp hz
 exact ⟨a,ha,rfl⟩
theorem qiZ (fs:List Nat) (a:Nat):nV fs++[V.int (a:Nat)]=nV (fs++[a]):=by simp
theorem qqK {a b:List Nat}:nI a=nI b↔a=b:=by
 constructor
 · intro h
   have:(nI a).map Int.toNat=(nI b).map Int.toNat:=by rw [h]
   rw [nI,nI,List.map_map,List.map_map,show (Int.toNat ∘ fun (n:Nat)=>(n:Int))=id from funext fun n=>Int.toNat_natCast n,List.map_id,List.map_id] at this
   exact this
 · rintro rfl;rfl
theorem qgk (a b:List Nat):qgh (nV a) (nV b)=decide (a=b):=by
 rw [qkA]
 exact decide_eq_decide.mpr qqK
theorem qpL (a:Nat) (fs:List Nat):inV (.int (a:Nat)) (nV fs)=decide (a∈fs):=by
 rw [qmt]
 refine decide_eq_decide.mpr ?_
 rw [List.mem_map]
 constructor
 · rintro ⟨b,hb,e⟩
   have:b=a:=by omega
   exact this▸hb
 · intro h
   exact ⟨a,h,rfl⟩
theorem qc4 (fs:List Nat):(nV fs).all qb0=true:=qks _
theorem qlh {ms:List Int} (h:∀z∈ms,0≤z):nI (ms.map Int.toNat)=ms:=by
 rw [nI,List.map_map]
 conv=>rhs;rw [←List.map_id ms]
 refine List.map_congr_left fun z hz=>?_
 have:=h z hz
 show ((z.toNat:Nat):Int)=z
 omega
def sd (fs:List Nat):List Nat:=(List.range (fs.foldl max 0+1)).filter fun x=>decide (x∈fs)
theorem qqE (fs:List Nat):∀z,z≤fs.foldl max z∧∀x∈fs,x≤fs.foldl max z:=by
 induction fs with
 | nil=>intro z;exact ⟨Nat.le_refl _,fun x hx=>by cases hx⟩
 | cons a fs ih =>
   intro z
   obtain ⟨h1,h2⟩:=ih (max z a)
   rw [List.foldl_cons]
   refine ⟨by omega,fun x hx=>?_⟩
   rcases List.mem_cons.mp hx with rfl | hx
   · omega
   · exact h2 x hx
theorem qjl {fs:List Nat} {x:Nat}:x∈sd fs↔x∈fs:=by
 unfold sd
 rw [List.mem_filter,List.mem_range,decide_eq_true_eq]
 exact ⟨fun h=>h.2,fun h=>⟨by have:=(qqE fs 0).2 x h;omega,h⟩⟩
theorem qiK (fs:List Nat):(sd fs).Pairwise (· < ·):=List.pairwise_lt_range.sublist List.filter_sublist
theorem qp6 {fs gs:List Nat} (h:gs.Pairwise (· < ·)) (e:∀x,x∈gs↔x∈fs):gs=sd fs:=Fam.rise_ext h (qiK fs) fun x=>(e x).trans qjl.symm
theorem qpm {fs:List Nat} (h:fs.Pairwise (· < ·)):sd fs=fs:=(qp6 h fun _=>Iff.rfl).symm
theorem qfP {fs:List Nat} {ms:List Int} (h1:ms.Perm (qeO (nI fs))) (h2:ms.Pairwise (·≤·)):ms=nI (sd fs):=by
 have nn:∀z∈ms,0≤z:=fun z hz=>by
   have:=qdM.mp (h1.mem_iff.mp hz)
   obtain ⟨a,_,rfl⟩:=List.mem_map.mp this
   omega
 have e:=qlh nn
 rw [←e]
 congr 1
 have nd:ms.Nodup:=h1.nodup_iff.mpr (qe6 _)
 refine qp6 ?_ fun x=>?_
 · rw [List.pairwise_map]
   have:=List.pairwise_iff_getElem.mp h2
   have nd':=List.pairwise_iff_getElem.mp nd
   rw [List.pairwise_iff_getElem]
   intro i j hi hj hij
   have a1:=this i j hi hj hij
   have a2:ms[i]≠ms[j]:=nd' i j hi hj hij
   have a3:=nn ms[i] (List.getElem_mem _)
   omega
 · rw [List.mem_map]
   constructor
   · rintro ⟨z,hz,rfl⟩
     have:=qdM.mp (h1.mem_iff.mp hz)
     obtain ⟨a,ha,rfl⟩:=List.mem_map.mp this
     simpa using ha
   · intro hx
     exact ⟨x,h1.mem_iff.mpr (qdM.mpr (List.mem_map.mpr ⟨x,hx,rfl⟩)),by simp⟩
end L2
namespace L2
open PySem PySem.Spec PyProof.Rows
section
variable {K:PySem.W.Frag} {g:TG} {σ:St} {H:Hp} {a:Addr} {xs:List V} {nt:Nat} {caps:List Nat} {tt:TT} {te:TE} {Q:VK}
theorem qhQ (Pv:Nat→List V→Hp→Prop) (h0:Pv 0 [] H) (hz:xs.length≤sizeLine) (hl:∀i ys H1,i≤xs.length→Pv i ys H1→SqL K H1 a xs∧ys.length≤i)
   (hs:∀i x ys H1,xs[i]?=some x→Pv i ys H1→∀(R:VK) (R':Hp→Prop),(∀y H2,Pv (i+1) (ys++[y]) H2→R y H2)→(∀H2,Pv (i+1) ys H2→R' H2) →
     g x (qbm nt caps σ) H1 fun σ4 H4=>tt σ4 H4 fun b H5=>if b=true then te σ4 H5 R else R' H5)
   (hd:∀ys H1,Pv xs.length ys H1→∀p,H1 p=none→Q (.ref p) (upd H1 p (.lst ys))):qdo (Itl K a) nt caps g tt te σ H Q:=by
 refine ⟨fun i m ys H1=>m=xs.length-i∧i≤xs.length∧Pv i ys H1,⟨_,rfl,Nat.zero_le _,h0⟩,?_⟩
 rintro i m ys H2 ⟨rfl,hi,p⟩
 obtain ⟨q,hy⟩:=hl i ys H2 hi p
 by_cases hlt:i<xs.length
 · refine .inr ⟨⟨xs,xs[i],q,by simp [hlt]⟩,by omega,fun x H3 y=>?_⟩
   obtain ⟨e,y⟩:=y
   subst e
   exact hs i x ys _ (y xs q) p _ _ (fun v H4 w=>⟨xs.length-(i+1),by omega,rfl,hlt,w⟩) fun H4 w=>⟨xs.length-(i+1),by omega,rfl,hlt,w⟩
 · obtain rfl:i=xs.length:=by omega
   exact .inl ⟨⟨xs,q,Nat.le_refl _⟩,by omega,hd ys H2 p⟩
theorem qqQ {lo:Int} {n:Nat} (Pv:Nat→List V→Hp→Prop) (h0:Pv 0 [] H) (hz:n≤sizeLine) (hl:∀i ys H1,i≤n→Pv i ys H1→ys.length≤i)
   (hs:∀i ys H1,i<n→Pv i ys H1→∀(R:VK) (R':Hp→Prop),(∀y H2,Pv (i+1) (ys++[y]) H2→R y H2)→(∀H2,Pv (i+1) ys H2→R' H2) →
     g (.int (lo+i)) (qbm nt caps σ) H1 fun σ4 H4=>tt σ4 H4 fun b H5=>if b=true then te σ4 H5 R else R' H5)
   (hd:∀ys H1,Pv n ys H1→∀p,H1 p=none→Q (.ref p) (upd H1 p (.lst ys))):qdo (Itr lo n) nt caps g tt te σ H Q:=by
 refine ⟨fun i m ys H1=>m=n-i∧i≤n∧Pv i ys H1,⟨_,rfl,Nat.zero_le _,h0⟩,?_⟩
 rintro i m ys H2 ⟨rfl,hi,p⟩
 have hy:=hl i ys H2 hi p
 by_cases hlt:i<n
 · refine .inr ⟨hlt,by omega,fun x H3 y=>?_⟩
   obtain ⟨e,y⟩:=y
   subst e y
   exact hs i ys _ hlt p _ _ (fun v H4 w=>⟨n-(i+1),by omega,rfl,hlt,w⟩) fun H4 w=>⟨n-(i+1),by omega,rfl,hlt,w⟩
 · obtain rfl:i=n:=by omega
   exact .inl ⟨Nat.le_refl _,by omega,hd ys H2 p⟩
theorem qdy {n:Nat} (c:Nat→Bool) (f:Nat→V) (hz:n≤100000)
   (hs:∀k,k<n→∀H1,qau H H1→∀(R:VK) (R':Hp→Prop),(c k=true→∀H2,qau H1 H2→R (f k) H2)→(c k=false→∀H2,qau H1 H2→R' H2) →
     g (.int (k:Nat)) (qbm nt caps σ) H1 fun σ4 H4=>tt σ4 H4 fun b H5=>if b=true then te σ4 H5 R else R' H5)
   (hd:∀H1 p,qau H H1→H1 p=none→Q (.ref p) (upd H1 p (.lst (((List.range n).filter c).map f)))):qdo (Itr 0 n) nt caps g tt te σ H Q:=by
 refine qqQ (fun i ys H1=>qau H H1∧ys=((List.range i).filter c).map f) ⟨qau.refl _,rfl⟩ (Nat.le_trans hz (by decide)) (fun i ys H1 _ h=>?_) (fun i ys H1 hi h R R' r1 r2=>?_) fun ys H1 h p hp=>?_
 · rw [h.2,List.length_map]
   exact Nat.le_trans (List.length_filter_le _ _) (by simp)
 · obtain ⟨sm,rfl⟩:=h
   rw [Int.zero_add]
   refine hs i hi H1 sm R R' (fun hc H2 s2=>r1 _ _ ⟨sm.trans s2,?_⟩) fun hc H2 s2=>r2 _ ⟨sm.trans s2,?_⟩
   · rw [List.range_succ,List.filter_append,List.map_append];simp [hc]
   · rw [List.range_succ,List.filter_append,List.map_append];simp [hc]
 · rw [h.2]
   exact hd H1 p h.1 hp
theorem qk0 {fs:List V} (c:V→Bool) (f:V→V) (hq:SqL K H a fs) (hz:fs.length≤100000)
   (hs:∀x∈fs,∀H1,qau H H1→∀(R:VK) (R':Hp→Prop),(c x=true→∀H2,qau H1 H2→R (f x) H2)→(c x=false→∀H2,qau H1 H2→R' H2) →
     g x (qbm nt caps σ) H1 fun σ4 H4=>tt σ4 H4 fun b H5=>if b=true then te σ4 H5 R else R' H5)
   (hd:∀H1 p,qau H H1→H1 p=none→Q (.ref p) (upd H1 p (.lst ((fs.filter c).map f)))):qdo (Itl K a) nt caps g tt te σ H Q:=by
 refine qhQ (xs:=fs) (fun i ys H1=>qau H H1∧ys=((fs.take i).filter c).map f) ⟨qau.refl _,rfl⟩ (Nat.le_trans hz (by decide)) (fun i ys H1 hi h=>⟨h.1.seq hq,?_⟩) (fun i x ys H1 hx h R R' r1 r2=>?_) fun ys H1 h p hp=>?_
 · rw [h.2,List.length_map]
   exact Nat.le_trans (List.length_filter_le _ _) (by rw [List.length_take];omega)
 · obtain ⟨sm,rfl⟩:=h
   have ex:=take_succ_filter c fs i x hx
   refine hs x (List.mem_of_getElem? hx) H1 sm R R' (fun hc H2 s2=>r1 _ _ ⟨sm.trans s2,?_⟩) fun hc H2 s2=>r2 _ ⟨sm.trans s2,?_⟩
   · rw [ex,hc,if_pos rfl,List.map_append];rfl
   · rw [ex,hc,if_neg Bool.false_ne_true,List.append_nil]
 · rw [h.2,List.take_length]
   exact hd H1 p h.1 hp
theorem qcX {fs:List Nat} (c:Nat→Bool) (f:Nat→V) (hq:SqL K H a (nV fs)) (hz:fs.length≤100000)
   (hs:∀x∈fs,∀H1,qau H H1→∀(R:VK) (R':Hp→Prop),(c x=true→∀H2,qau H1 H2→R (f x) H2)→(c x=false→∀H2,qau H1 H2→R' H2) →
     g (.int (x:Nat)) (qbm nt caps σ) H1 fun σ4 H4=>tt σ4 H4 fun b H5=>if b=true then te σ4 H5 R else R' H5)
   (hd:∀H1 p,qau H H1→H1 p=none→Q (.ref p) (upd H1 p (.lst ((fs.filter c).map f)))):qdo (Itl K a) nt caps g tt te σ H Q:=by
 refine qk0 (fs:=nV fs) (fun v=>match v with | .int i=>c i.toNat | _=>false) (fun v=>match v with | .int i=>f i.toNat | _ => .non) hq (by rw [qbz];exact hz) (fun x hx H1 sm R R' r1 r2=>?_) fun H1 p sm hp=>?_
 · obtain ⟨b,hb,rfl⟩:=qnk hx
   refine hs b hb H1 sm R R' (fun hc=>?_) fun hc=>?_
   · have:=r1 (by simpa using hc)
     simpa using this
   · exact r2 (by simpa using hc)
 · have e:((nV fs).filter (fun v=>match v with | .int i=>c i.toNat | _=>false)).map (fun v=>match v with | .int i=>f i.toNat | _ => .non)=(fs.filter c).map f:=by
     rw [nV,nI,List.map_map,List.filter_map,List.map_map]
     rfl
   rw [e]
   exact hd H1 p sm hp
end
theorem qaC {n:Nat} (h:n≤100000):n≤sizeLine:=Nat.le_trans h (by decide)
theorem qcL {n:Nat} (h:n≤100000):n<sizeLine:=Nat.lt_of_le_of_lt h (by decide)
theorem qkQ {b:Bool} {A B:Prop} (h1:b=true→A) (h2:b=false→B):if b=true then A else B:=by
 cases b
 · exact qcp (h2 rfl)
 · exact qeT (h1 rfl)
theorem qiW {P A B:Prop} [Decidable P] {b:Bool} (e:P↔b=true) (h1:b=true→A) (h2:b=false→B):if P then A else B:=by
 by_cases c:P
 · rw [if_pos c];exact h1 (e.mp c)
 · rw [if_neg c];exact h2 (by cases b with | false=>rfl | true=>exact absurd (e.mpr rfl) c)
theorem qaw {H H':Hp} {p:Addr} {o:HO} (e:upd H p o=H'):H' p=some o:=e▸qai
theorem qar {H H':Hp} {p:Addr} {o:HO} (e:upd H p o=H') (h:H p=none):qau H H':=e▸qau.new h
theorem qgr {H:Hp} {p q:Addr} {o:HO} (h:H p=none) (hq:H q=some o):q≠p:=fun z=>by rw [z,h] at hq;cases hq
theorem qaD {H H':Hp} {p:Addr} (s:qau H H') (h:H' p=none):H p=none:=by
 cases e:H p with
 | none=>rfl
 | some o=>rw [s _ _ e] at h;cases h
theorem qjX {fs:List Nat} {i b:Nat} (h:fs[i]?=some b):atI (nV fs) (i:Int)=some (.int (b:Nat)):=by
 have hl:=(List.getElem?_eq_some_iff.mp h).1
 unfold atI ixN
 rw [if_pos (by omega),if_pos (by rw [qbz];omega)]
 show (nV fs)[(i:Int).toNat]?=_
 rw [Int.toNat_natCast]
 exact qjU h
theorem qgP {H:Hp} {p:Addr} {o:HO} (h:H p=some o):H=upd H p o:=funext fun x=>by
 by_cases c:x=p
 · rw [c,qai,h]
 · rw [qaz c]
theorem qo1 (fs:List Nat) {n:Nat} (h:fs.length≤n):(sd fs).length≤n:=by
 have nd:(nI (sd fs)).Nodup:=by
   rw [nI,List.Nodup,List.pairwise_map]
   exact (qiK fs).imp fun h e=>by omega
 have p:(nI (sd fs)).Perm (qeO (nI fs)):=(List.perm_ext_iff_of_nodup nd (qe6 _)).mpr fun z=>by
   rw [qdM,List.mem_map,List.mem_map]
   exact ⟨fun ⟨x,hx,e⟩=>⟨x,qjl.mp hx,e⟩,fun ⟨x,hx,e⟩=>⟨x,qjl.mpr hx,e⟩⟩
 have e1:=p.length_eq
 have e2:=qea (nI fs)
 simp at e1 e2
 omega
theorem qmb (n:Nat) (c:Nat→Bool):((List.range n).filter c).map (fun k=>V.int (k:Nat))=nV ((List.range n).filter c):=by simp
theorem qfm (fs:List Nat):fs.map (fun k=>V.int (k:Nat))=nV fs:=by simp
end L2
namespace L2
open PySem PySem.Spec PyProof.Rows
theorem qjc (xs:List V) (n:Nat):qkc xs none (some (n:Int))=xs.take n:=by
 unfold qkc
 rw [HT.sIx_nat]
 show (xs.drop 0).take (min n xs.length-0)=_
 rw [List.drop_zero,Nat.sub_zero,List.take_eq_take_iff]
 omega
theorem qde (xs:List V) (n:Nat):qkc xs (some (n:Int)) none=xs.drop n:=by
 unfold qkc
 rw [HT.sIx_nat]
 show (xs.drop (min n xs.length)).take (xs.length-min n xs.length)=_
 rcases Nat.lt_or_ge n xs.length with z | z
 · rw [Nat.min_eq_left (Nat.le_of_lt z),←List.length_drop,List.take_length]
 · rw [Nat.min_eq_right z,List.drop_eq_nil_of_le z,List.drop_eq_nil_of_le (Nat.le_refl _)]
   simp
theorem qpi (xs:List V) (i j:Nat):qkc xs (some (i:Int)) (some (j:Int))=(xs.drop i).take (j-i):=by
 unfold qkc
 rw [HT.sIx_nat,HT.sIx_nat]
 rcases Nat.lt_or_ge i xs.length with z | z
 · rw [Nat.min_eq_left (Nat.le_of_lt z),List.take_eq_take_iff,List.length_drop]
   omega
 · rw [Nat.min_eq_right z,List.drop_eq_nil_of_le z,List.drop_eq_nil_of_le (Nat.le_refl _)]
   simp
end L2
namespace L2
open PySem PySem.Spec PyProof.Rows
section
variable {K:PySem.W.Frag} {g:TG} {tb:TS} {D:qgd} {σ:St} {H:Hp} {a:Addr} {xs:List V} {c:TT}
theorem qgf {n:Nat} (Pv:Nat→St→Hp→Prop) (h0:Pv 0 σ H)
   (hs:∀i σ H,i<n→Pv i σ H→∀N:St→Hp→Prop,(∀σ' H',Pv (i+1) σ' H'→N σ' H')→g (.int (i:Nat)) σ H fun σ2 H2=>tb { D with nx:=N,ct:=N,bk:=D.nx } σ2 H2) (hd:∀σ H,Pv n σ H→D.nx σ H):qet (Itr 0 n) g tb D σ H :=
 qq9 Pv h0 (fun i σ H hi p=>by rw [Int.zero_add];exact hs i σ H hi p _ fun _ _ q=>q) hd
theorem qh8 (Pv:Nat→St→Hp→Prop) (h0:Pv 0 σ H) (hl:∀i σ H,i≤xs.length→Pv i σ H→SqL K H a xs)
   (hs:∀i x σ H,xs[i]?=some x→Pv i σ H→∀N:St→Hp→Prop,(∀σ' H',Pv (i+1) σ' H'→N σ' H')→g x σ H fun σ2 H2=>tb { D with nx:=N,ct:=N,bk:=D.nx } σ2 H2) (hd:∀σ H,Pv xs.length σ H→D.nx σ H):qet (Itl K a) g tb D σ H :=
 qnV Pv h0 hl (fun i x σ H hx p=>hs i x σ H hx p _ fun _ _ q=>q) hd
theorem qfQ {fs:List Nat} (Pv:Nat→St→Hp→Prop) (h0:Pv 0 σ H) (hl:∀i σ H,i≤fs.length→Pv i σ H→SqL K H a (nV fs))
   (hs:∀i b σ H,fs[i]?=some b→Pv i σ H→∀N:St→Hp→Prop,(∀σ' H',Pv (i+1) σ' H'→N σ' H')→g (.int (b:Nat)) σ H fun σ2 H2=>tb { D with nx:=N,ct:=N,bk:=D.nx } σ2 H2) (hd:∀σ H,Pv fs.length σ H→D.nx σ H):qet (Itl K a) g tb D σ H :=
 qnV (xs:=nV fs) Pv h0 (fun i σ H hi p=>hl i σ H (by rwa [qbz] at hi) p) (fun i x σ H hx p=>by
   obtain ⟨b,hb,rfl⟩:=qkk hx
   exact hs i b σ H hb p _ fun _ _ q=>q) fun σ H p=>hd σ H (by rwa [qbz] at p)
theorem qqo {fs:List Nat} (Pv:Nat→St→Hp→Prop) (h0:Pv 0 σ H) (hl:∀i σ H,i≤fs.length→Pv i σ H→SqL K H a (nV fs))
   (hs:∀i b σ H,fs.reverse[i]?=some b→Pv i σ H→∀N:St→Hp→Prop,(∀σ' H',Pv (i+1) σ' H'→N σ' H')→g (.int (b:Nat)) σ H fun σ2 H2=>tb { D with nx:=N,ct:=N,bk:=D.nx } σ2 H2) (hd:∀σ H,Pv fs.length σ H→D.nx σ H):qet (Itv K a (nV fs)) g tb D σ H :=
 qrr Pv h0 (fun i σ H hi p=>hl i σ H (by rwa [qbz] at hi) p) (fun i x σ H hx p=>by
   rw [show (nV fs).reverse=nV fs.reverse by simp] at hx
   obtain ⟨b,hb,rfl⟩:=qkk hx
   exact hs i b σ H hb p _ fun _ _ q=>q) fun σ H p=>hd σ H (by rwa [qbz] at p)
theorem qqS (W:Nat→St→Hp→Prop) (m0:Nat) (h0:W m0 σ H)
   (hs:∀m σ H,W m σ H→∀(T:Hp→Prop),(∀H1,((∀N:St→Hp→Prop,(∀m' σ' H',m'<m→W m' σ' H'→N σ' H')→tb { D with nx:=N,ct:=N,bk:=D.nx } σ H1)→T H1))→c σ H fun b H1=>if b=true then T H1 else D.nx σ H1):qjo c tb D σ H:=by
 refine ⟨W,⟨m0,h0⟩,fun m σ H w=>?_⟩
 exact hs m σ H w (fun H1=>∃N:St→Hp→Prop,(∀σ' H',N σ' H'→∃m',m'<m∧W m' σ' H')∧tb { D with nx:=N,ct:=N,bk:=D.nx } σ H1) fun H1 h=>⟨fun σ' H'=>∃m',m'<m∧W m' σ' H',fun _ _ z=>z,h _ fun m' σ' H' l w'=>⟨m',l,w'⟩⟩
end
end L2
namespace L2
open PySem PySem.Spec PyProof.Rows
theorem qoM (a k:Nat):Builtin.bitAnd ((a:Int)/2^((k:Nat):Int).toNat) 1=if a.testBit k=true then 1 else 0:=by
 have e:(a:Int)/2^((k:Nat):Int).toNat=((a/2^k:Nat):Int):=by rw [Int.toNat_natCast,qhh];rfl
 rw [e,show (1:Int)=((1:Nat):Int) from rfl,qb3,Nat.and_one_is_mod,Nat.testBit_eq_decide_div_mod_eq]
 by_cases c:a/2^k%2=1
 · simp [c]
 · have:a/2^k%2=0:=by omega
   simp [this]
theorem qo4 (a k:Nat):decide (Builtin.bitAnd ((a:Int)/2^((k:Nat):Int).toNat) 1=1)=a.testBit k:=by
 rw [qoM]
 cases a.testBit k<;>rfl
theorem qfd {a k:Nat}:Builtin.bitAnd ((a:Int)/2^((k:Nat):Int).toNat) 1=1↔a.testBit k=true:=by
 rw [←qo4,decide_eq_true_eq]
theorem qa5 (k:Nat):(1:Int)*2^((k:Nat):Int).toNat=((2^k:Nat):Int):=by rw [Int.one_mul,Int.toNat_natCast,qhh]
end L2
namespace L2
open PySem PySem.Spec PyProof.Rows
inductive Deq (K:PySem.W.Frag) (H:Hp):Nat→V→V→Bool→Prop where
 | flat {n:Nat} {x y:V}:qb0 x=true→qb0 y=true→Deq K H n x y (eqV x y)
 | lst {n:Nat} {a b:Addr} {xs ys:List V} {e:Nat→Bool}:a≠b→SqL K H a xs→SqL K H b ys→xs.length=ys.length→(∀(j:Nat) (x y:V),xs[j]?=some x→ys[j]?=some y→Deq K H n x y (e j))→Deq K H (n+1) (.ref a) (.ref b) ((List.range xs.length).all e)
 | lstN {n:Nat} {a b:Addr} {xs ys:List V}:a≠b→SqL K H a xs→SqL K H b ys→xs.length≠ys.length→Deq K H (n+1) (.ref a) (.ref b) false
 | tup {n:Nat} {a b:Addr} {xs ys:List V} {e:Nat→Bool}:a≠b→SqT K H a xs→SqT K H b ys→(∀(j:Nat) (x y:V),xs[j]?=some x→ys[j]?=some y→Deq K H n x y (e j))→Deq K H (n+1) (.ref a) (.ref b) ((List.range (min xs.length ys.length)).all e&&xs.length==ys.length)
section
variable {X:Cx} {pins:List (Addr×Obj)} {σ:St} {H:Hp} {s:Shared} {K:PySem.W.Frag}
end
end L2
namespace L2
open PySem PySem.Spec PyProof.Rows
abbrev bV (t:List Bool):List V:=t.map V.bl
def tab (n:Nat) (f:Nat→Bool):List Bool:=(List.range n).map f
theorem qpA (t:List Bool):(bV t).length=t.length:=by simp
theorem qop {n k:Nat} {f:Nat→Bool} (h:k<n):(tab n f)[k]?=some (f k):=by
 unfold tab
 rw [List.getElem?_map,List.getElem?_range h]
 rfl
theorem qrY {t:List Bool} {i:Nat} {b:Bool} (h:t[i]?=some b):atI (bV t) (i:Int)=some (.bl b):=by
 have hl:=(List.getElem?_eq_some_iff.mp h).1
 unfold atI ixN
 rw [if_pos (by omega),if_pos (by rw [qpA];omega)]
 show (bV t)[(i:Int).toNat]?=_
 rw [Int.toNat_natCast,List.getElem?_map,h]
 rfl
theorem qgW {n k:Nat} {f:Nat→Bool} (h:k<n):atI (bV (tab n f)) (k:Int)=some (.bl (f k)):=qrY (qop h)
theorem qoZ {n:Nat} {f:Nat→Bool}:((List.range n).filter fun _=>true).map (fun k=>V.bl (f k))=bV (tab n f):=by
 rw [List.filter_eq_self.mpr fun _ _=>rfl,tab,bV,List.map_map]
 rfl
end L2
namespace L2
open PySem PySem.Spec PyProof.Rows
section
variable {X:Cx} {es:List Expr} {t:TA} {te:TE}
inductive CI:List Expr→List Int→Prop
 | nil:CI [] []
 | cons {i:Int} {j:Nat} {p:Pos} {es:List Expr} {ns:List Int} (h:CI es ns):CI (.Constant (.int i) j p::es) (i::ns)
def qrv (ns:List Int):TA:=fun _ H Q=>Q (ns.map V.int) H
end
end L2
namespace L2
open PySem PySem.Spec PyProof.Rows
section
variable {X:Cx} {K:PySem.W.Frag}
theorem qjx {T:String} {name:Str} {id:String} {r:V→List V→Hp→VK→Prop} {o e:Expr} {es:List Expr} {to:TE} {t:TA} {apos cpos:Pos} (hK:X.K=K) (pa:PlainAttrs T) (slot:Slot T name id) (hty:typeOf (.builtin id)=pure (.type "method_descriptor")) (hm:MtR X id r) (ho:PE X o to) (ha:PA X (e::es) t) (h1:attributeBase o name X.env (eval o X.env)=eval o X.env:=by rfl) (h2:((backTo cpos (starEach (e::es) X.env)).all (fun x=>!x.1)&&(backToKw cpos (keywordEach [] X.env)).all (fun x=>x.1.isSome)&&decide ((e::es).length+([]:List Keyword).length+(if ([]:List Keyword).isEmpty then 0 else 1)<30))=true:=by rfl) (h3:(apos.endLine==cpos.line)=true:=by rfl) (h4:starEach (e::es) X.env=(false,eval e X.env)::starEach es X.env:=by rfl) (h5:(backTo cpos (starEach es X.env)).any (·.1)=false:=by rfl):PE X (.Call (.Attribute o name apos) (e::es) [] cpos) (tBM K T r to t):=by
 subst hK
 exact qbp pa slot hty hm ho ha h1 h2 h3 h4 h5
end
end L2
namespace L2
open PySem PySem.Spec PyProof.Rows
inductive DI:List Expr→TA→Prop
 | nil:DI [] qrL
 | c {v:Const} {j:Nat} {p:Pos} {es:List Expr} {te:TE} {t:TA} (h:∀X,PE X (.Constant v j p) te) (r:DI es t):DI (.Constant v j p::es) (qjW te t)
 | t {xs:List Expr} {b p} {es:List Expr} {te:TE} {t:TA} (h:∀X,PE X (.Tuple xs b p) te) (r:DI es t):DI (.Tuple xs b p::es) (qjW te t)
 | d {ks vs p} {es:List Expr} {te:TE} {t:TA} (h:∀X,PE X (.Dict ks vs p) te) (r:DI es t):DI (.Dict ks vs p::es) (qjW te t)
 | l {xs:List Expr} {p} {es:List Expr} {te:TE} {t:TA} (h:∀X,PE X (.List xs p) te) (r:DI es t):DI (.List xs p::es) (qjW te t)
end L2
namespace L2
open PySem PySem.Spec PyProof.Rows STb
section
variable {prog:Program} {w:World} {A:Around} {E:Value→Shared→Prop} {s:Shared}
end
section
variable {X:Cx}
end
end L2
namespace L2
open PySem PySem.Spec PyProof.Rows
section
variable {X:Cx} {K:PySem.W.Frag} {g:TG} {σ:St} {H:Hp} {a:Addr} {xs:List V} {nt:Nat} {caps:List Nat} {tt:TT} {te tl:TE} {Q:VK}
theorem qor (h:X.K=K):SlR X (qse K):=h▸qra
theorem qpc:qfV nt caps (qsc K tl) g tt te σ H Q↔tl σ H fun x H1=>∃a,x = .ref a∧(∃xs,SqT K H1 a xs)∧qdo (Itt K a) nt caps g tt te σ H1 Q:=Iff.rfl
end
end L2
namespace L2
open PySem PySem.Spec PyProof.Rows
section
variable {X:Cx} {pins:List (Addr×Obj)} {σ:St} {H:Hp} {s:Shared} {h':Heap} {K:PySem.W.Frag}
theorem Inv.turned2 {t':Nat} {e it:Addr} (I:Inv X pins σ H s) (k:∀b o,b≠e→b≠it→s.heap.get? b=some o→h'.get? b=some o) (fe:qhp X pins H e) (fi:qhp X pins H it):Inv X pins σ H { s with heap:=h',toks:=t' }:=by
 have nit:∀b u,H b=some u→b≠e∧b≠it:=fun b u q=>⟨fun z=>(by rw [z,fe.1] at q;cases q),fun z=>(by rw [z,fi.1] at q;cases q)⟩
 have nc:∀b:Addr,b∉[e,it]→b≠e∧b≠it:=fun b hc=>⟨fun z=>hc (by simp [z]),fun z=>hc (by simp [z])⟩
 refine I.step (g':=s.gens) (d':=s.drawn) (ch:=[e,it]) (fun b hb=>?_) (fun b o _ _ hc q _=>k b o (nc b hc).1 (nc b hc).2 q) (fun b o _ _ hc q _=>⟨o.slots,k b o (nc b hc).1 (nc b hc).2 q⟩) (fun _ _ _ _ n=>n)
   (fun b o hc q=>⟨o,k b o (nc b hc).1 (nc b hc).2 q⟩) (fun _ _ q=>q) (fun _ _ _ q=>q) (fun b ps q=>⟨#[],by rw [q];simp⟩) (fun m hm=>?_) (fun b u q=>?_) I.bare
 · rcases List.mem_cons.mp hb with rfl | hb
   · exact ⟨fe.2.2.2.1,fe.2.1,fe.2.2.2.2.1,fe.2.2.2.2.2⟩
   · obtain rfl:b=it:=by simpa using hb
     exact ⟨fi.2.2.2.1,fi.2.1,fi.2.2.2.2.1,fi.2.2.2.2.2⟩
 · obtain ⟨o,es,ep,ho,r⟩:=hm
   exact ⟨o,es,ep,k _ o (Ne.symm fe.2.1) (Ne.symm fi.2.1) ho,r⟩
 · have ne2:∀c,c=b∨H c=some (.own b)→c≠e∧c≠it:=fun c hc=>by
     rcases hc with z | z
     · rw [z];exact nit b u q
     · exact nit c _ z
   exact (I.hok b u q).stay (fun c v hc z=>k c v (ne2 c hc).1 (ne2 c hc).2 z) (fun _ z=>z) fun _ _ z=>z
def Ite (K:PySem.W.Frag) (a:Addr):It :=
 ⟨fun i H=>∃xs x,SqL K H a xs∧xs[i]?=some x,fun i H v H'=>∃t,v = .ref t∧H t=none∧∀xs x,SqL K H a xs→xs[i]?=some x→H'=upd H t (.tup [.int (i:Nat),x]),fun i H=>∃xs,SqL K H a xs∧xs.length≤i⟩
theorem qlk {P:Program} {w:World} {elts:List Expr} {x1:Nat} {pos:Pos} (a e it:Addr) (hei:e≠it):ql2 P w K (.Tuple elts x1 pos) (Ite K a) [e,it] e (fun i h=>(∃old,IsEnum h e it i old)∧h.IsListIter it a i) where
 mem:=by simp
 obj:=fun i h st b hb=>by
   obtain ⟨⟨old,he⟩,o,e2,c,d⟩:=st
   rcases List.mem_cons.mp hb with rfl | hb
   · exact ⟨_,he,fun v z=>by
       have z':Data.fields _=Data.cell v:=z
       cases z'⟩
   · obtain rfl:b=it:=by simpa using hb
     exact ⟨o,e2,fun v z=>by rw [d] at z;cases z⟩
 keep:=fun i h h' st k=>by
   obtain ⟨⟨old,he⟩,st⟩:=st
   exact ⟨⟨old,k e (by simp) _ he⟩,st.at fun o q=>k it (by simp) o q⟩
 item:=by
   intro X hP hw hK hc i pins s σ H E I hf st hg
   subst hP hw hK
   obtain ⟨xs,x,hq,hx⟩:=hg
   obtain ⟨its,rv,p,hz⟩:=I.list hq
   obtain ⟨u,hu,ru⟩:=rv.get hx
   obtain ⟨⟨old,he⟩,hit⟩:=st
   have fe:=hf e (by simp)
   have fi:=hf it (by simp)
   have hel:e<s.heap.objs.size:=Heap.lt_size he
   have hil:it<s.heap.objs.size:=by obtain ⟨_,q,_⟩:=hit;exact Heap.lt_size q
   have fr:=I.hok.fresh (Nat.le_refl s.heap.objs.size)
   refine wpAny_pyNext_enum_item he hit p.isList (x:=u) (by simpa using hu) hei fun h' ho hit' hT hsz hk=>⟨_,rfl,?_⟩
   refine wpAny_letOwnedTupleGo_enum (s:={ s with heap:=h',toks:=s.toks+1 }) ho fun h2 he2 hs2=>?_
   have I1:Inv X pins σ (upd H s.heap.objs.size (.tup [.int (i:Nat),x])) { s with heap:=s.heap.push { cls := .type "tuple",data := .seq #[.int i s.toks,u] },toks:=s.toks+1 } :=
     I.laid (t':=s.toks+1) (fun b u e=>Heap.get?_push_of_some _ e) (Nat.le_refl _) ⟨by simp;decide,[.int i s.toks,u],.cons ⟨_,rfl⟩ (.cons ru .nil),⟨_,Heap.get?_push_size _ rfl,rfl,_,rfl⟩⟩
   have up:∀b,b<s.heap.objs.size→H b=none→upd H s.heap.objs.size (.tup [.int (i:Nat),x]) b=none:=fun b hb hn=>by
     rw [qaz (Nat.ne_of_lt hb)]
     exact hn
   have I2:Inv X pins σ (upd H s.heap.objs.size (.tup [.int (i:Nat),x])) { s with heap:=h2,toks:=s.toks+1 } 
     := Inv.turned2 (s:={ s with heap:=s.heap.push { cls := .type "tuple",data := .seq #[.int i s.toks,u] },toks:=s.toks+1 }) (h':=h2) (t':=s.toks+1) (e:=e) (it:=it) I1 (fun b o b1 b2 q=>by
     rw [hs2.2 b b1]
     by_cases c:b=s.heap.objs.size
     · subst c
       have q0:(s.heap.push { cls := .type "tuple",data := .seq #[.int i s.toks,u] }).get? s.heap.objs.size=some { cls := .type "tuple",data := .seq #[.int i s.toks,u] }:=Heap.get?_push_size _ rfl
       have q1:(s.heap.push { cls := .type "tuple",data := .seq #[.int i s.toks,u] }).get? s.heap.objs.size=some o:=q
       rw [q0] at q1
       cases q1
       exact hT
     · have q1:(s.heap.push { cls := .type "tuple",data := .seq #[.int i s.toks,u] }).get? b=some o:=q
       rw [Heap.get?_push_ne _ _ _ c] at q1
       exact hk b o b1 b2 q1) ⟨up e hel fe.1,fe.2⟩ ⟨up it hil fi.1,fi.2⟩
   refine ⟨.ref s.heap.objs.size,_,I2,rfl,⟨_,rfl,fr,fun ys y hy hyx=>?_⟩,⟨⟨_,he2⟩,hit'.at fun o q=>(hs2.2 it (Ne.symm hei)).trans q⟩,fun b hb=>?_⟩
   · rw [I.list_inj hy hq,hx] at hyx
     cases hyx
     rfl
   · rcases List.mem_cons.mp hb with rfl | hb
     · exact up _ hel fe.1
     · obtain rfl:b=it:=by simpa using hb
       exact up _ hil fi.1
 done:=by
   intro X hP hw hK hc i pins s σ H E I hf st hg
   subst hP hw hK
   obtain ⟨xs,hq,hx⟩:=hg
   obtain ⟨its,rv,p,hz⟩:=I.list hq
   obtain ⟨⟨old,he⟩,hit⟩:=st
   obtain ⟨f0,f1,f2,f3,f4,f5⟩:=hf it (by simp)
   have hl:=rv.length
   exact wpAny_pyNext_enum_end (I.ok.hd hc) he hit p.isList (by simp;omega) fun h' eb=>⟨rfl,I.turned (t':=s.toks) (fun b o hb e=>eb b o hb e) f0 f1 f3 f4 f5⟩
 self:=fun _ _ _ _ _ st h=>by
   obtain ⟨⟨old,he⟩,_⟩:=st
   exact wpAny_pyIter_enum he h
def qqI (K:PySem.W.Frag) (ta:TA):TI:=fun σ H R=>ta σ H fun vs H1=>∃a xs,vs=[.ref a]∧SqL K H1 a xs∧R (Ite K a) H1
theorem qpa {a:Expr} {elts:List Expr} {x1:Nat} {tp:Pos} {ta:TA} {p pos:Pos} (hK:X.K=K) (hg:Gl X "enumerate") (hm:X.mg "enumerate" = none) (ha:PA X [a] ta) (hs:starEach [a] X.env=[(false,eval a X.env)]:=by rfl):PI X (.Tuple elts x1 tp) (.Call (.Name "enumerate" p) [a] [] pos) (qqI K ta):=by
 subst hK
 intro pins s σ H R I h
 refine Call_ (qeE I hg hm PyProof.Rows.boot_enumerate (PyProof.Rows.callWith_type1 (thn (ha pos pins s σ H _ I h) fun us s1 ⟨vs,H1,I1,r1,q1⟩=>?_) hs rfl))
 obtain ⟨b,xs,rfl,hq,q⟩:=q1
 obtain ⟨u,rfl,ru⟩:=qdD r1
 cases ru
 obtain ⟨its,rv,pl,hz⟩:=I1.list hq
 refine call_enumerate_list pl.isList fun h' he hi hsz hk=>?_
 have I2:Inv X pins σ H1 { s1 with heap:=h' }:=I1.kept (t':=s1.toks) hk
 refine wpAny_pyIter_enum he ⟨s1.heap.objs.size+1,[s1.heap.objs.size+1,s1.heap.objs.size],_,_,H1,rfl,I2,qlk b _ _ (Nat.succ_ne_self _),⟨⟨_,he⟩,hi⟩,fun c hb=>?_,q⟩
 rcases List.mem_cons.mp hb with rfl | hb
 · exact I1.fpOk (by omega) (I1.hok.fresh (by omega))
 · obtain rfl:c=s1.heap.objs.size:=by simpa using hb
   exact I1.fpOk (Nat.le_refl _) (I1.hok.fresh (Nat.le_refl _))
theorem qlY {K:PySem.W.Frag}:qhA 2 (qrU K 2 (qmX (qga 0) (qmX (qga 1) qrQ))):=by
 intro v cs H Q h
 obtain ⟨a,xs,e,hq,hl,v0,r0,e0,v1,r1,e1,e2,q⟩:=h
 refine ⟨a,xs,e,hq,hl,v0,r0,e0,v1,r1,e1,e2,fun j u z=>?_,q⟩
 match j with
 | 0=>simp at z
 | 1=>simp at z
 | j+2=>simpa using z
end
section
variable {K:PySem.W.Frag} {g:TG} {σ:St} {H:Hp} {a:Addr} {nt:Nat} {caps:List Nat} {tt:TT} {te:TE} {Q:VK} {ta:TA}
theorem qou:qfV nt caps (qqI K ta) g tt te σ H Q↔ta σ H fun vs H1=>∃a xs,vs=[.ref a]∧SqL K H1 a xs∧qdo (Ite K a) nt caps g tt te σ H1 Q:=Iff.rfl
theorem qp1 {fs:List Nat} (c:Nat→Nat→Bool) (f:Nat→V) (hq:SqL K H a (nV fs)) (hz:fs.length≤1000)
   (hs:∀i x,fs[i]?=some x→∀(R:VK) (R':Hp→Prop) (H1:Hp) (t:Addr),qau H H1→H1 t=some (.tup [.int (i:Nat),.int (x:Nat)])→(c i x=true→R (f i) H1)→(c i x=false→R' H1) →
     g (.ref t) (qbm nt caps σ) H1 fun σ4 H4=>tt σ4 H4 fun b H5=>if b=true then te σ4 H5 R else R' H5)
   (hd:∀H1 p,qau H H1→H1 p=none→Q (.ref p) (upd H1 p (.lst (((List.range fs.length).filter fun i=>c i (fs.getD i 0)).map f)))):qdo (Ite K a) nt caps g tt te σ H Q:=by
 refine ⟨fun i m ys H1=>m=fs.length-i∧i≤fs.length∧qau H H1∧ys=((List.range i).filter fun i=>c i (fs.getD i 0)).map f,⟨_,rfl,Nat.zero_le _,qau.refl _,rfl⟩,?_⟩
 rintro i m ys H2 ⟨rfl,hi,s2,rfl⟩
 have hq2:=s2.seq hq
 have hy:(((List.range i).filter fun i=>c i (fs.getD i 0)).map f).length≤i:=by
   rw [List.length_map]
   exact Nat.le_trans (List.length_filter_le _ _) (by simp)
 by_cases hlt:i<fs.length
 · have hx:fs[i]?=some fs[i]:=List.getElem?_eq_getElem hlt
   have hd0:fs.getD i 0=fs[i]:=by rw [List.getD_eq_getElem?_getD,hx];rfl
   refine .inr ⟨⟨nV fs,_,hq2,qjU hx⟩,qcL (by omega),fun v H3 y=>?_⟩
   obtain ⟨t,rfl,ht,y⟩:=y
   have e3:=y _ _ hq2 (qjU hx)
   have s3:qau H2 H3:=by rw [e3];exact qau.new ht
   refine hs i fs[i] hx _ _ H3 t (s2.trans s3) (by rw [e3,qai]) (fun hc=>⟨fs.length-(i+1),by omega,rfl,hlt,s2.trans s3,?_⟩) fun hc=>⟨fs.length-(i+1),by omega,rfl,hlt,s2.trans s3,?_⟩
   · rw [List.range_succ,List.filter_append,List.map_append,List.filter_cons,hd0,hc,List.filter_nil];rfl
   · rw [List.range_succ,List.filter_append,List.map_append,List.filter_cons,hd0,hc,List.filter_nil];exact (List.append_nil _).symm
 · obtain rfl:i=fs.length:=by omega
   exact .inl ⟨⟨nV fs,hq2,by rw [qbz];exact Nat.le_refl _⟩,qaC (by omega),fun p hp=>hd H2 p s2 hp⟩
end
section
variable {g:TG} {tb:TS} {D:qgd} {σ:St} {H:Hp}
theorem qqW {l:Int} {lo n:Nat} (e:l=(lo:Nat)) (Pv:Nat→St→Hp→Prop) (h0:Pv 0 σ H)
   (hs:∀i σ H,i<n→Pv i σ H→∀N:St→Hp→Prop,(∀σ' H',Pv (i+1) σ' H'→N σ' H')→g (.int ((lo+i:Nat))) σ H fun σ2 H2=>tb { D with nx:=N,ct:=N,bk:=D.nx } σ2 H2) (hd:∀σ H,Pv n σ H→D.nx σ H):qet (Itr l n) g tb D σ H :=
 qq9 Pv h0 (fun i σ H hi p=>by
   rw [e,show ((lo:Nat):Int)+(i:Nat)=((lo+i:Nat):Int) by omega]
   exact hs i σ H hi p _ fun _ _ q=>q) hd
def qkd (H0 H:Hp) (p:Addr) (LL:List (List Nat)) (ps:List Addr):Prop:=H0 p=none∧H p=some (.lst (ps.map V.ref))∧ps.length=LL.length∧∀(j:Nat) (q:Addr) (L:List Nat),ps[j]?=some q→LL[j]?=some L→H0 q=none∧H q=some (.lst (nV L))
theorem qkd.mono {H0 H H':Hp} {p:Addr} {LL:List (List Nat)} {ps:List Addr} (h:qkd H0 H p LL ps) (s:qau H H'):qkd H0 H' p LL ps :=
 ⟨h.1,s _ _ h.2.1,h.2.2.1,fun j q L h1 h2=>⟨(h.2.2.2 j q L h1 h2).1,s _ _ (h.2.2.2 j q L h1 h2).2⟩⟩
theorem qkd.back {H0 H1 H:Hp} {p:Addr} {LL:List (List Nat)} {ps:List Addr} (h:qkd H1 H p LL ps) (s:qau H0 H1):qkd H0 H p LL ps :=
 ⟨qaD s h.1,h.2.1,h.2.2.1,fun j q L h1 h2=>⟨qaD s (h.2.2.2 j q L h1 h2).1,(h.2.2.2 j q L h1 h2).2⟩⟩
theorem qkd.snoc {H0 H:Hp} {p r:Addr} {LL:List (List Nat)} {ps:List Addr} {L:List Nat} (h:qkd H0 H p LL ps) (hr:H0 r=none) (hL:H r=some (.lst (nV L))) (hne:∀q∈ps,q≠p) (hrp:r≠p) :
   qkd H0 (upd H p (.lst (ps.map V.ref++[.ref r]))) p (LL++[L]) (ps++[r]):=by
 refine ⟨h.1,by rw [qai,List.map_append];rfl,by rw [List.length_append,List.length_append,h.2.2.1];rfl,fun j q M h1 h2=>?_⟩
 have hj:j<ps.length∨j=ps.length:=by
   have:=(List.getElem?_eq_some_iff.mp h1).1
   rw [List.length_append] at this
   simp at this
   omega
 rcases hj with hj | hj
 · rw [List.getElem?_append_left hj] at h1
   rw [List.getElem?_append_left (by rw [←h.2.2.1];exact hj)] at h2
   have:=h.2.2.2 j q M h1 h2
   rw [qaz (hne q (List.mem_of_getElem? h1))]
   exact this
 · subst hj
   rw [List.getElem?_append_right (Nat.le_refl _),Nat.sub_self] at h1
   rw [h.2.2.1,List.getElem?_append_right (Nat.le_refl _),Nat.sub_self] at h2
   cases h1
   cases h2
   rw [qaz hrp]
   exact ⟨hr,hL⟩
end
end L2
namespace L2
open PySem PySem.Spec PyProof.Rows
def rkV (cs:List Nat) (v:Nat):List Nat:=(List.range cs.length).filter fun i=>decide (cs.getD i 0=v)
def rkd (cs:List Nat):List (List Nat):=(sd cs).reverse.map (rkV cs)
theorem qg9 (m:Nat) (f:Nat→Bool):(Fam.trns m f).length=m:=by simp [Fam.trns]
def qmJ (m:Nat) (f:Nat→Bool) (x y:Nat):Prop:=∀x' y',x'<y'→y'<m→(x'<x∨x'=x∧y'<y)→Fam.part m f x' y'=none∨Fam.part m f y' x'=none
end L2
namespace L2
open PySem PySem.Spec PyProof.Rows
theorem qnG {n:Nat}:¬(n+1+1<n):=by omega
theorem qnC {n:Nat}:n≤n+1+1:=by omega
theorem qnR {n b:Nat} (h:b<n):n+1+1≠b:=by omega
def qf4 (X:Cx) (N:List Str) (scope:Scope) (cx:Str) (cl:List (Str×Addr)) (C:Addr) (s:Shared) (H:Hp) (fp:List Addr):Cx :=
 { X with N:=N,s₀:=s,H₀:=H,env:=compEnvC scope ((cx,C+1)::cl) C X.env,outer:=X.stack,ex:=fp,fn:=fun y=>y==cx,pn:=[],xe:=fun _ _=>False }
structure qg8 (X:Cx) (N:List Str) (nt:Nat) (caps:List Nat) (cx:Str) (scope:Scope):Prop where
 one:∀n acc,cellsFrom n scope.names acc=(cx,n)::acc
 push:∀h:Heap,pushCells h scope.names=h.push { cls := .type "cell",data := .cell none }
 cell:∀y∈scope.names,y.2 = .cell→y.1=cx
 notf:(cx,NameKind.free)∉scope.names
 kind:scope.kind = .function
 names:∀x∈scope.names,x.2 = .local→scope.names.lookup x.1=some .local
 free:∀n,(n,NameKind.free)∈scope.names→X.env.kindOf n=some .cell∨X.env.kindOf n=some .free
 cap:∀(j i:Nat),caps[j]?=some i→∃x,X.N[i]?=some x∧N[nt+j]?=some x∧(x,NameKind.free)∈scope.names∧scope.names.lookup x=some .free
 len:N.length=nt+caps.length
def qjj (sc:Scope) (NX N:List Str) (nt:Nat) (caps:List Nat) (cx:Str) (scope:Scope):Bool :=
 scope.names.all (fun y=>!(y.2 == .cell)||y.1==cx)&&scope.names.all (fun y=>!(y.2 == .free)||!(y.1==cx))&&scope.kind == .function&&scope.names.all (fun y=>!(y.2 == .local)||scope.names.lookup y.1==some .local)
 && scope.names.all (fun y=>!(y.2 == .free)||sc.names.lookup y.1==some .cell||sc.names.lookup y.1==some .free)
 && (List.range caps.length).all (fun j=>match NX[caps.getD j 0]? with
   | some x=>N[nt+j]?==some x&&scope.names.any (fun y=>y.1==x&&y.2 == .free)&&scope.names.lookup x==some .free
   | none=>false)
 && N.length==nt+caps.length
theorem qjd {X:Cx} {N:List Str} {nt:Nat} {caps:List Nat} {cx:Str} {scope:Scope} (one:∀n acc,cellsFrom n scope.names acc=(cx,n)::acc) (push:∀h:Heap,pushCells h scope.names=h.push { cls := .type "cell",data := .cell none })
   (h:qjj X.env.scope X.N N nt caps cx scope=true:=by rfl):qg8 X N nt caps cx scope:=by
 unfold qjj at h
 simp only [Bool.and_eq_true,List.all_eq_true,Bool.or_eq_true,Bool.not_eq_true',beq_iff_eq,beq_eq_false_iff_ne,ne_eq] at h
 obtain ⟨⟨⟨⟨⟨⟨h1,h0⟩,h2⟩,h3⟩,h4⟩,h5⟩,h6⟩:=h
 refine ⟨one,push,fun y hy e=>(h1 y hy).resolve_left fun z=>z e,fun hn=>?_,h2,fun y hy e=>(h3 y hy).resolve_left fun z=>z e,fun n hn=>?_,fun j i e=>?_,h6⟩
 · rcases h0 _ hn with z | z
   · exact z rfl
   · exact z rfl
 · rcases h4 (n,.free) hn with (z | z) | z
   · exact absurd rfl z
   · exact .inl z
   · exact .inr z
 · obtain ⟨hj,e'⟩:=List.getElem?_eq_some_iff.mp e
   have q:=h5 j (List.mem_range.mpr hj)
   have eg:caps.getD j 0=i:=by rw [List.getD_eq_getElem?_getD,e];rfl
   rw [eg] at q
   cases hx:X.N[i]? with
   | none=>rw [hx] at q;cases q
   | some x =>
     rw [hx] at q
     simp only [Bool.and_eq_true,beq_iff_eq,List.any_eq_true] at q
     obtain ⟨⟨q1,y,hy,e1,e2⟩,q3⟩:=q
     refine ⟨x,rfl,q1,?_,q3⟩
     obtain ⟨n,k⟩:=y
     cases e1;cases e2
     exact hy
theorem qd2 {scope:Scope} {env:Env} {x cx:Str} (hc:∀y∈scope.names,y.2 = .cell→y.1=cx) {k:NameKind} (h:(relabel scope env).names.lookup x=some k) (hk:k = .cell∨k = .free):(x,NameKind.free)∈scope.names∨x=cx:=by
 unfold relabel at h
 dsimp only at h
 rw [qcq _ (fun p=>by obtain ⟨n,k⟩:=p;dsimp only;split<;>rfl)] at h
 cases hl:scope.names.lookup x with
 | none=>rw [hl] at h;cases h
 | some q =>
   rw [hl] at h
   have m:=qeg hl
   by_cases hq:q = .free
   · rw [←hq];exact .inl m
   · have hb:(q==NameKind.free)=false:=by simpa using hq
     simp only [Option.map_some,hb,Bool.false_and,Bool.false_eq_true,if_false,Option.some.injEq] at h
     rcases hk with z | z
     · exact .inr (hc _ m (h.trans z))
     · exact absurd (h.trans z) hq
theorem qj7 {M:Model} {A:Around} {E:Value→Shared→Prop} {s:Shared} {scope:Scope} {globals:Addr} {cl:List (Str×Addr)} {qual cx:Str} {outer:Env} {b:Addr} {Q:Env→Shared→Prop}
   (one:∀n acc,cellsFrom n scope.names acc=(cx,n)::acc) (push:∀h:Heap,pushCells h scope.names=h.push { cls := .type "cell",data := .cell none })
   (h:Q (newEnv scope s.heap.objs.size globals ((cx,s.heap.objs.size+1)::cl) qual none .none (some outer) b) { s with heap:=(s.heap.push { cls := .type "dict",data := .dict #[] }).push { cls := .type "cell",data := .cell none } }) :
   wpAny M A (newFunctionEnv scope globals cl [] qual none .none (some outer) b) Q E s:=by
 simp only [newFunctionEnv,Option.isSome_some,if_true]
 refine wpAny_bind (wpAny_alloc ?_)
 refine wpAny_bind (wpAny_layCells _ (fun name kind cells=>by cases hkc:kind==NameKind.cell<;>simp [hkc]) _ _ _ _ ?_)
 rw [one,push,Heap.size_push]
 exact wpAny_bind (wpAny_pure (wpAny_pure h))
section
variable {X:Cx} {tg iter elt:Expr} {ifs:List Expr} {scope:Scope} {pos:Pos} {N:List Str} {nt:Nat} {caps:List Nat} {wi:TI} {g:TG} {tt:TT} {te:TE} {cl:List (Str×Addr)} {cx:Str}
theorem qii {pins:List (Addr×Obj)} {σ:St} {H:Hp} {s:Shared} {it:Addr} {fp:List Addr} {tn:Nat→Heap→Prop} {J:It} {RR:Value→Addr→Result→Shared→Prop} {E:Value→Shared→Prop}
   (ok:qg8 X N nt caps cx scope) (hc:X.calm=true) (h1:∀n c,cl.lookup n=some c→X.env.cells.lookup n=some c) (h2:∀n,(n,NameKind.free)∈scope.names→∃c,cl.lookup n=some c)
   (hg:∀cl C s H fp,PG (qf4 X N scope cx cl C s H fp) tg g) (hgk:qhA nt g) (ht:∀cl C s H fp,PTs (qf4 X N scope cx cl C s H fp) ifs tt) (he:∀cl C s H fp,PE (qf4 X N scope cx cl C s H fp) elt te)
   (I:Inv X pins σ H s) (T:ql2 X.prog X.w X.K tg J fp it tn) (st:tn 0 s.heap) (hf:∀b∈fp,qhp X pins H b)
   (W:Nat→Nat→List V→Hp→Prop) (Z:List V→Hp→Prop) (m0:Nat) (w0:W 0 m0 [] H)
   (turn:∀i m ys H2,W i m ys H2→(J.stop i H2∧Z ys H2) ∨
     (J.go i H2∧ys.length<sizeLine∧∀x H3,J.yld i H2 x H3→g x (qbm nt caps σ) H3 fun σ4 H4=>tt σ4 H4 fun b H5 =>
       if b=true then te σ4 H5 fun y H6=>∃m',m'<m∧W (i+1) m' (ys++[y]) H6 else ∃m',m'<m∧W (i+1) m' ys H5))
   (hRR:∀(C:Addr) (s':Shared) (ys:List V) (its:List Value) (n:Nat) (H':Hp),s.heap.objs.size<C→qbd ys its→Inv (qf4 X N scope cx cl C s H fp) [] (qbm nt caps σ) H' s' →
     s'.heap.get? s.heap.objs.size=some { cls := .type "list",data := .seq its.toArray n }→H' s.heap.objs.size=none→Z ys H'→RR (.ref s.heap.objs.size) C (.ok .next) s') :
   wpAny (model X.prog X.w) X.A (newList []) (fun acc s₃=>wpAny (model X.prog X.w) X.A (newFunctionEnv scope X.env.globals cl [] X.env.qual none .none (some X.env)) (fun cenv s₄ =>
     codeAny (model X.prog X.w) X.A (.compStart (.ListComp elt [⟨tg,iter,ifs,0⟩] scope pos) 0 (.ref it) acc { cenv with scope:=relabel scope X.env }) (RR acc cenv.locals) s₄) E s₃) E s:=by
 refine wpAny_newObj_type (qj7 ok.one ok.push ?_)
 dsimp only
 generalize hG:s.heap.push { cls := .type "list",dict:=none,data := .seq ([]:List Value).toArray }=G
 generalize hh₁:(G.push { cls := .type "dict",data := .dict #[] }).push { cls := .type "cell",data := .cell none }=h₁
 have keep₁:∀b o,G.get? b=some o→h₁.get? b=some o:=fun b o e=>hh₁▸Heap.get?_push_of_some _ (Heap.get?_push_of_some _ e)
 have hns₁:h₁.Ns G.objs.size (fun _=>none):=hh₁▸(Heap.Ns.new G (.type "dict")).keeps fun b o e=>Heap.get?_push_of_some _ e
 have hcell₁:h₁.IsCell (G.objs.size+1) none:=by
   refine ⟨{ cls := .type "cell",data := .cell none },?_,rfl⟩
   have:=Heap.get?_push_size (G.push { cls := .type "dict",data := .dict #[] }) (o:={ cls := .type "cell",data := .cell none }) rfl
   rw [Heap.size_push,hh₁] at this
   exact this
 have hC:G.objs.size=s.heap.objs.size+1:=by rw [←hG,Heap.size_push]
 have hDC:s.heap.objs.size≠G.objs.size:=by rw [hC];exact Nat.ne_of_lt (Nat.lt_succ_self _)
 have hlt:s.heap.objs.size<G.objs.size:=by rw [hC];exact Nat.lt_succ_self _
 have old:∀b o,s.heap.get? b=some o→h₁.get? b=some o:=fun b o e =>
   keep₁ b o (hG▸Heap.get?_push_of_some _ e)
 have hacc:h₁.get? s.heap.objs.size=some { cls := .type "list",data := .seq ([]:List Value).toArray 0 }:=keep₁ _ _ (hG▸Heap.get?_push_size _ rfl)
 have fpD:∀b∈fp,b<s.heap.objs.size:=fun b hb=>by
   obtain ⟨o,e,_⟩:=T.obj _ _ st b hb
   exact Heap.lt_size e
 have celt:∀n c,cl.lookup n=some c→c<s.heap.objs.size:=fun n c e=>by
   obtain ⟨v,q⟩:=I.cell n c (h1 n c e)
   exact q.lt
 have lkx:((cx,G.objs.size+1)::cl).lookup cx=some (G.objs.size+1):=by simp [List.lookup_cons]
 have lkn:∀y,y≠cx→((cx,G.objs.size+1)::cl).lookup y=cl.lookup y:=fun y hy=>by
   rw [List.lookup_cons]
   have:(y==cx)=false:=by simpa using hy
   rw [this]
 have look2:∀y c,((cx,G.objs.size+1)::cl).lookup y=some c→(y=cx∧c=G.objs.size+1)∨(y≠cx∧cl.lookup y=some c):=fun y c e=>by
   by_cases hy:y=cx
   · subst hy
     rw [lkx] at e
     cases e
     exact .inl ⟨rfl,rfl⟩
   · rw [lkn y hy] at e
     exact .inr ⟨hy,e⟩
 have has2:∀y,(y,NameKind.free)∈scope.names∨y=cx→∃c,((cx,G.objs.size+1)::cl).lookup y=some c:=fun y hy=>by
   by_cases h:y=cx
   · exact ⟨_,by rw [h];exact lkx⟩
   · obtain ⟨c,e⟩:=h2 y (hy.resolve_right h)
     exact ⟨c,by rw [lkn y h];exact e⟩
 have YOk:(qf4 X N scope cx cl G.objs.size s H fp).Ok:=by
   refine ⟨I.ok.mod,ok.kind,I.ok.glob,I.ok.blt,Nat.le_of_lt hlt,fun x y c e e'=>?_,fun x hx=>?_,fun x c hx e=>?_,I.ok.hd,I.ok.frames,.inl rfl,
     fun b hb=>⟨Nat.ne_of_lt (Nat.lt_trans (fpD b hb) hlt),fun x c e z=>?_⟩,fun b o e=>I.bs b o e,Nat.le_trans I.ok.bsz I.sz,fun b o e hb=>?_,fun b hb hz=>?_,I.stack,I.stkFree⟩
   · rcases look2 x c e with ⟨z1,z2⟩ | ⟨z1,z2⟩<;>rcases look2 y c e' with ⟨z3,z4⟩ | ⟨z3,z4⟩
     · rw [z1,z3]
     · have:=celt y c z4
       exact absurd this (by rw [z2,hC];exact qnG)
     · have:=celt x c z2
       exact absurd this (by rw [z4,hC];exact qnG)
     · exact I.ok.inj x y c (h1 x c z2) (h1 y c z4)
   · rcases hx with hx | hx
     · exact has2 x (qd2 ok.cell hx (.inl rfl))
     · exact has2 x (qd2 ok.cell hx (.inr rfl))
   · rcases look2 x c e with ⟨z1,z2⟩ | ⟨z1,z2⟩
     · rw [z2,hC]
       exact qnC
     · exact absurd (beq_iff_eq.mp hx) z1
   · rcases look2 x c e with ⟨z1,z2⟩ | ⟨z1,z2⟩
     · have:=fpD b hb
       rw [z2,hC] at z
       exact qnR this z
     · exact (hf b hb).2.2.2.2.1 x c (h1 x c z2) z
   · rcases (hf b hb).2.2.2.1 with z | z
     · exact I.ok.noex b o e z
     · exact absurd (Nat.lt_of_lt_of_le (Heap.lt_size e) (Nat.le_trans I.ok.bsz z)) (Nat.lt_irrefl _)
   · rcases List.mem_cons.mp (I.stkSub b hz) with z | z
     · exact (hf b hb).2.1 z
     · exact (hf b hb).2.2.1 z
 have lenb:(qbm nt caps σ).length=N.length:=by rw [ok.len];simp [qbm]
 have IY:Inv (qf4 X N scope cx cl G.objs.size s H fp) [] (qbm nt caps σ) H { s with heap:=h₁,toks:=s.toks }:=by
   refine ⟨YOk,rfl,I.bare,Un.kept old,⟨_,hns₁,fun i x v e1 e2 e3=>?_⟩,fun x c e=>?_,I.hok.fresh (Nat.le_of_lt hlt),fun x c e=>?_,fun p hp=>(nomatch hp),I.hok.kept old,lenb⟩
   · have hi:nt≤i:=by
       rcases Nat.lt_or_ge i nt with z | z
       · exfalso
         unfold qbm at e2
         rw [List.getElem?_append_left (by simpa using z),List.getElem?_replicate] at e2
         split at e2<;>cases e2
       · exact z
     unfold qbm at e2
     rw [List.getElem?_append_right (by simpa using hi),List.length_replicate,List.getElem?_map] at e2
     cases ej:caps[i-nt]? with
     | none=>rw [ej] at e2;cases e2
     | some j =>
       rw [ej] at e2
       have e2':(σ[j]?).join=some v:=by simpa using e2
       have e2'':σ[j]?=some (some v):=by
         cases q:σ[j]? with
         | none=>rw [q] at e2';cases e2'
         | some z=>rw [q] at e2';simp at e2';rw [e2']
       obtain ⟨y,y1,y2,y3,y4⟩:=ok.cap _ _ ej
       have:nt+(i-nt)=i:=by omega
       rw [this] at y2
       have e1':N[i]?=some x:=e1
       rw [e1'] at y2
       cases y2
       obtain ⟨m,hn,hl⟩:=I.loc
       have kx:=ok.free x y3
       have vx:Vis X.env.scope x:=by
         rcases kx with z | z
         · exact .inr (.inl z)
         · exact .inr (.inr z)
       obtain ⟨u,r,l⟩:=hl j x v y1 e2'' vx
       refine ⟨u,r,.inr ⟨?_,?_⟩⟩
       · rcases e3 with z | z | z
         · exact absurd z (qeH y4)
         · exact .inl z
         · exact .inr z
       · obtain ⟨c,hcl⟩:=h2 x y3
         refine ⟨c,(lkn x fun z=>ok.notf (z▸y3)).trans hcl,?_⟩
         rcases l with ⟨k,_⟩ | ⟨_,c',hc',o,ho,hd⟩
         · rcases kx with z | z<;>(rw [z] at k;cases k)
         · have:c=c':=Option.some.inj ((h1 x c hcl).symm.trans hc')
           subst this
           exact ⟨o,old c o ho,hd⟩
   · rcases look2 x c e with ⟨z1,z2⟩ | ⟨z1,z2⟩
     · rw [z2]
       exact ⟨none,hcell₁⟩
     · obtain ⟨v,o,ho,hd⟩:=I.cell x c (h1 x c z2)
       exact ⟨v,o,old c o ho,hd⟩
   · rcases look2 x c e with ⟨z1,z2⟩ | ⟨z1,z2⟩
     · exact I.hok.fresh (by rw [z2,hC];exact qnC)
     · exact I.freeC x c (h1 x c z2)
 -- the loop
 have stat:∀{pn:List (Addr×Obj)} {H':Hp},(∀b∈fp,H' b=none)→(∀p∈pn,s.heap.objs.size≤p.1)→∀b∈fp,qhp (qf4 X N scope cx cl G.objs.size s H fp) pn H' b:=fun {pn H'} hn hpn b hb =>
   ⟨hn b hb,Nat.ne_of_lt (Nat.lt_trans (fpD b hb) hlt),fun hz=>(YOk.exfs b hb hz).elim,.inl hb,(fun x c e z=>by
     rcases look2 x c e with ⟨z1,z2⟩ | ⟨z1,z2⟩
     · have:=fpD b hb
       rw [z2,hC] at z
       exact qnR this z
     · exact (hf b hb).2.2.2.2.1 x c (h1 x c z2) z),fun p hp z=>by
     have hp':p∈pn:=by simpa [qf4] using hp
     have:=hpn p hp'
     rw [z] at this
     exact absurd (Nat.lt_of_lt_of_le (fpD b hb) this) (Nat.lt_irrefl _)⟩
 have hDf:s.heap.objs.size∉fp:=fun hm=>Nat.lt_irrefl _ (fpD _ hm)
 have hDs:s.heap.objs.size∉frs X.stack:=fun hm=>by
   rcases List.mem_cons.mp (I.stkSub _ hm) with z | z
   · exact absurd I.lt (by rw [←z];exact Nat.lt_irrefl _)
   · exact I.nofs (Nat.le_refl _) z
 have loop:∀s₃:Shared,s₃={ s with heap:=h₁,toks:=s.toks } →
     codeAny (model X.prog X.w) X.A (.compLoop (.ListComp elt [⟨tg,iter,ifs,0⟩] scope pos) 0 (.ref it) (.ref s.heap.objs.size) (compEnvC scope ((cx,G.objs.size+1)::cl) G.objs.size X.env)) (RR (.ref s.heap.objs.size) G.objs.size) s₃:=by
   rintro s₃ rfl
   refine qey (fun n s'=>∃i ys its k H',Inv (qf4 X N scope cx cl G.objs.size s H fp) [] (qbm nt caps σ) H' s'∧tn i s'.heap∧(∀b∈fp,H' b=none)∧qbd ys its ∧
     s'.heap.get? s.heap.objs.size=some { cls := .type "list",data := .seq its.toArray k }∧H' s.heap.objs.size=none∧ys.length≤sizeLine∧W i n ys H') ?_ m0
     ⟨0,[],[],0,H,IY,T.keep _ _ _ st fun b hb o e=>old b o e,fun b hb=>(hf b hb).1,.nil,hacc,I.hok.fresh (Nat.le_refl _),Nat.zero_le _,w0⟩
   rintro n s3 ⟨i,ys,its,k,H3,I3,st3,fr3,v3,a3,n3,z3,w3⟩
   have I3p:Inv (qf4 X N scope cx cl G.objs.size s H fp) [(s.heap.objs.size,{ cls := .type "list",data := .seq its.toArray k })] (qbm nt caps σ) H3 s3:=I3.pins_of fun p hp=>by
     have e:p=(s.heap.objs.size,{ cls := .type "list",data := .seq its.toArray k }):=by simpa using hp
     subst e
     exact ⟨a3,n3,hDC,hDs,fun v z=>by cases z⟩
   have pn3:∀p∈[(s.heap.objs.size,({ cls := .type "list",data := .seq its.toArray k }:Obj))],s.heap.objs.size≤p.1:=fun p hp=>by
     have e:p=(s.heap.objs.size,{ cls := .type "list",data := .seq its.toArray k }):=by simpa using hp
     subst e
     exact Nat.le_refl _
   rcases turn i n ys H3 w3 with ⟨stop,zz⟩ | ⟨go,hlen,step⟩
   · refine thn (T.done (qf4 X N scope cx cl G.objs.size s H fp) rfl rfl rfl hc i _ s3 _ H3 _ I3p (stat fr3 pn3) st3 stop) fun r s4 ⟨hr,I4⟩=>?_
     subst hr
     have a4:=I4.pin (s.heap.objs.size,{ cls := .type "list",data := .seq its.toArray k }) (List.mem_append_right _ (by simp))
     exact hRR _ s4 ys its k H3 hlt v3 (I4.pins_of fun _ hp=>nomatch hp) a4.1 n3 zz
   · refine thn (T.item (qf4 X N scope cx cl G.objs.size s H fp) rfl rfl rfl hc i _ s3 _ H3 _ I3p (stat fr3 pn3) st3 go) fun r s4 ⟨u,hr,h4⟩=>?_
     subst hr
     refine thn h4 fun _ s5 ⟨x,H5,I5,r5,y5,st5,fr5⟩=>?_
     have I5':=I5.pinned (stat fr5 pn3) (T.obj _ _ st5)
     refine thn (hg _ _ _ _ _ _ s5 _ H5 x u _ I5' r5 (hgk _ _ _ _ (step x H5 y5))) fun _ s6 ⟨σ6,H6,I6,kp6,q6⟩=>?_
     refine thn (ht _ _ _ _ _ _ s6 σ6 H6 _ I6 q6) fun b s7 ⟨H7,I7,q7⟩=>?_
     have back:∀{H8:Hp} {s8:Shared},Inv (qf4 X N scope cx cl G.objs.size s H fp) ([(s.heap.objs.size,({ cls := .type "list",data := .seq its.toArray k }:Obj))]++qgw fp s5.heap) σ6 H8 s8 →
         Inv (qf4 X N scope cx cl G.objs.size s H fp) [] (qbm nt caps σ) H8 s8∧tn (i+1) s8.heap∧(∀b∈fp,H8 b=none)∧s8.heap.get? s.heap.objs.size=some { cls := .type "list",data := .seq its.toArray k }∧H8 s.heap.objs.size=none:=fun {H8 s8} I8=>by
       have a8:=I8.pin (s.heap.objs.size,{ cls := .type "list",data := .seq its.toArray k }) (List.mem_append_right _ (List.mem_append_left _ (by simp)))
       refine ⟨(I8.pins_of (pins':=[]) fun _ hp=>absurd hp (by simp)).weak (by rw [lenb,I8.len];rfl) kp6,T.keep _ _ _ st5 fun b hb o e=>(I8.pin (b,o) (List.mem_append_right _ (List.mem_append_right _ (qb9 hb e)))).1,fun b hb=>?_,a8.1,a8.2.1⟩
       obtain ⟨o,e,d⟩:=T.obj _ _ st5 b hb
       exact (I8.pin (b,o) (List.mem_append_right _ (List.mem_append_right _ (qb9 hb e)))).2.1
     cases b with
     | false =>
       rw [if_neg (by intro z;cases z)] at q7 ⊢
       obtain ⟨m',hm,w7⟩:=q7
       obtain ⟨b1,b2,b3,b4,b5⟩:=back I7
       exact ⟨m',hm,i+1,ys,its,k,H7,b1,b2,b3,v3,b4,b5,z3,w7⟩
     | true =>
       rw [if_pos rfl] at q7 ⊢
       refine thn (he _ _ _ _ _ _ s7 σ6 H7 _ I7 q7) fun u8 s8 ⟨y,H8,I8,r8,m',hm,w8⟩=>?_
       obtain ⟨b1,b2,b3,b4,b5⟩:=back I8
       have hl:=v3.length
       refine call_meets F.slot_list_append ⟨_,b4,rfl⟩ F.entry_list_append (F.args_list_append_2 _ _) (PySem.list_append s.heap.objs.size its.toArray k u8 (by rw [List.size_toArray];omega)) ⟨b4,?_⟩
       have q:=PySem.IsL.update (show PySem.IsL s8.heap s.heap.objs.size its.toArray k from b4) (fun x=>x.push u8)
       have eq:its.toArray.push u8=(its++[u8]).toArray:=by simp
       rw [eq] at q
       have keep:∀b' o,b'≠s.heap.objs.size→s8.heap.get? b'=some o→(s8.heap.update s.heap.objs.size (Obj.mapSeq fun x=>x.push u8)).get? b'=some o:=fun b' o hb hu =>
         (Heap.get?_update_other s8.heap (Obj.mapSeq fun x=>x.push u8) (Ne.symm hb)).trans hu
       refine ⟨m',hm,i+1,ys++[y],its++[u8],_,H8,b1.turned (t':=s8.toks) keep b5 hDC (.inr (Nat.le_refl _)) (fun x c e z=>?_) (fun p hp=>by simp [qf4] at hp),T.keep _ _ _ b2 fun b hb o e=>keep b o (fun z=>hDf (z▸hb)) e,b3,
         v3.append (.cons r8 .nil),q,b5,?_,w8⟩
       · rcases look2 x c e with ⟨z1,z2⟩ | ⟨z1,z2⟩
         · rw [z2,hC] at z
           exact absurd z (Nat.ne_of_gt (Nat.lt_trans (Nat.lt_succ_self _) (Nat.lt_succ_self _)))
         · exact absurd (celt x c z2) (by rw [z];exact Nat.lt_irrefl _)
       · rw [List.length_append,List.length_singleton];omega
 exact codeAny_compStart_list (loop _ rfl) (T.self _ 0 _ _ _ (T.keep _ _ _ st fun b hb o e=>old b o e) (loop _ rfl))
theorem qgs {pins:List (Addr×Obj)} {σ:St} {H H':Hp} {s s':Shared} {fp:List Addr} {C:Addr} {ys:List V} {its:List Value} {n:Nat} {σb:St} {h':Heap}
   (I:Inv X pins σ H s) (hf:∀b∈fp,qhp X pins H b) (hC:s.heap.objs.size<C) (v:qbd ys its) (hz:ys.length≤sizeLine) (IY:Inv (qf4 X N scope cx cl C s H fp) [] σb H' s')
   (e:s'.heap.get? s.heap.objs.size=some { cls := .type "list",data := .seq its.toArray n }) (en:H' s.heap.objs.size=none) (hs:∀b o,b≠C→s'.heap.get? b=some o→h'.get? b=some o) :
   Inv X pins σ (upd H' s.heap.objs.size (.lst ys)) { s' with heap:=h' }:=by
 have hCn:H' C=none:=IY.free
 have hok:HOk X.prog X.w H' h':=fun b u q=>by
   have nC:∀c u',H' c=some u'→c≠C:=fun c u' q' z=>by rw [z,hCn] at q';cases q'
   refine (IY.hok b u q).stay (fun c w' hc q'=>hs c w' ?_ q') (fun _ q'=>q') fun _ _ q'=>q'
   rcases hc with z | z
   · rw [z];exact nC b u q
   · exact nC c _ z
 have lt:∀b o,s.heap.get? b=some o→b≠C:=fun b o q=>Nat.ne_of_lt (Nat.lt_trans (Heap.lt_size q) hC)
 have u:Un (frs X.stack) fp H H' s.heap h':=⟨fun b o q nn hb hx=>hs b o (lt b o q) (IY.base.keep b o q nn hb hx),fun b o q nn hb hx=>by
     obtain ⟨sl,q'⟩:=IY.base.slot b o q nn hb hx
     exact ⟨sl,hs b _ (lt b o q) q'⟩,IY.base.free,fun b o q hx=>by
     obtain ⟨o',q'⟩:=IY.base.there b o q hx
     exact ⟨o',hs b o' (lt b o q) q'⟩,IY.base.tups,IY.base.frzs,IY.base.tbls⟩
 have I1:Inv X pins σ H' { s' with heap:=h' }:=I.call' (s':={ s' with heap:=h' }) (ch:=fp) IY.os u hok IY.bare fun b hb=>⟨(hf b hb).2.2.2.1,(hf b hb).2.1,(hf b hb).2.2.2.2.1,(hf b hb).2.2.2.2.2⟩
 have hD:h'.get? s.heap.objs.size=some { cls := .type "list",data := .seq its.toArray n }:=hs _ _ (Nat.ne_of_lt hC) e
 exact I1.track (by
   have f:=I.fpOk (H':=H') (b:=s.heap.objs.size) (Nat.le_refl _) en
   exact f) ⟨hz,its,n,v,hD⟩
theorem ql8 (ok:qg8 X N nt caps cx scope) (hc:X.calm=true) (hi:PI X tg iter wi)
   (hg:∀cl C s H fp,PG (qf4 X N scope cx cl C s H fp) tg g) (hgk:qhA nt g) (ht:∀cl C s H fp,PTs (qf4 X N scope cx cl C s H fp) ifs tt) (he:∀cl C s H fp,PE (qf4 X N scope cx cl C s H fp) elt te)
   (hs:∀x,foldedSetIterable iter X.env x=pure x:=by intro _;rfl):PE X (.ListComp elt [⟨tg,iter,ifs,0⟩] scope pos) (qfV nt caps wi g tt te):=by
 intro pins s σ H Q I h
 obtain ⟨cl,hcl,h1,h2⟩:=qcu (scope:=scope) (env:=X.env) fun n hn=>I.ok.has n (ok.free n hn)
 rw [eval_ListComp]
 refine wpAny_comprehension_free (use:=none) rfl hs hcl ok.kind ok.names (thn (hi pins s σ H _ I h) fun xv s1 h1'=>thn h1' fun itv s2 h2'=>?_)
 obtain ⟨it,fp,tn,J,H2,e,I2,T,st2,f2,W,⟨m0,w0⟩,turn⟩:=h2'
 subst e
 refine qii (RR:=fun acc C=>compPost (model X.prog X.w) X.A X.xe none (EP X pins σ Q) acc C) ok hc h1 h2 hg hgk ht he I2 T st2 f2 W (fun ys H'=>ys.length≤sizeLine∧∀p,H' p=none→Q (.ref p) (upd H' p (.lst ys))) m0 w0 turn ?_
 intro C s' ys its n H' hC v IY e en zz
 obtain ⟨m,hn,_⟩:=IY.loc
 exact ⟨m,hn,fun h' hs'=>⟨.ref s2.heap.objs.size,_,qgs I2 f2 hC v zz.1 IY e en (fun b o hb q=>hs'.extBut b o hb q),rfl,zz.2 _ en⟩⟩
theorem qmW {i:Nat} {y:Str} {py spos:Pos} (hN:X.N.Nodup) (hyi:X.N[i]?=some y) (hy:X.env.scope.names.lookup y=some .local) (hsw:swapsWith (.ListComp elt [⟨tg,iter,ifs,0⟩] scope pos) (some (.Name y py)) spos.line X.env=pure true)
   (ok:qg8 X N nt caps cx scope) (hc:X.calm=true) (hi:PI X tg iter wi)
   (hg:∀cl C s H fp,PG (qf4 X N scope cx cl C s H fp) tg g) (hgk:qhA nt g) (ht:∀cl C s H fp,PTs (qf4 X N scope cx cl C s H fp) ifs tt) (he:∀cl C s H fp,PE (qf4 X N scope cx cl C s H fp) elt te)
   (hs:∀x,foldedSetIterable iter X.env x=pure x:=by intro _;rfl):PS X (.Assign [.Name y py] (.ListComp elt [⟨tg,iter,ifs,0⟩] scope pos) spos) (qpx (qfV nt caps wi g tt te) (qga i)):=by
 intro pins s σ H D I h
 obtain ⟨cl,hcl,h1,h2⟩:=qcu (scope:=scope) (env:=X.env) fun n hn=>I.ok.has n (ok.free n hn)
 rw [exec_Assign_Name_used _ _ _ _ hsw]
 refine wpAny_bind (wpAny_standAt (wpAny_bind ?_))
 show wpAny _ X.A (do let _ ←comprehension (.ListComp elt [⟨tg,iter,ifs,0⟩] scope pos) scope X.env _ (newList []) false (eval iter X.env) (some (assign (.Name y py) X.env))) _ _ s
 refine wpAny_bind (wpAny_mono (wpAny_comprehension_free (use:=some (assign (.Name y py) X.env)) (Q:=fun _ s'=>SP X pins D .next s') rfl hs hcl ok.kind ok.names
   (thn (hi pins s σ H _ I h) fun xv s1 h1'=>thn h1' fun itv s2 h2'=>?_)) (fun _ s' hq=>wpAny_pure (wpAny_pure hq)) fun _ _ e=>e)
 obtain ⟨it,fp,tn,J,H2,e,I2,T,st2,f2,W,⟨m0,w0⟩,turn⟩:=h2'
 subst e
 refine qii (RR:=fun acc C=>compPost (model X.prog X.w) X.A X.xe (some (assign (.Name y py) X.env)) (fun _ s'=>SP X pins D .next s') acc C) ok hc h1 h2 hg hgk ht he I2 T st2 f2 W
   (fun ys H'=>ys.length≤sizeLine∧∀p,H' p=none→qga i (.ref p) σ (upd H' p (.lst ys)) D.nx) m0 w0 turn ?_
 intro C s' ys its n H' hC v IY e en zz
 obtain ⟨m,hn,_⟩:=IY.loc
 have I3:Inv X pins σ (upd H' s2.heap.objs.size (.lst ys)) s':=qgs (h':=s'.heap) I2 f2 hC v zz.1 IY e en fun b o hb q=>q
 obtain ⟨o,es,ep,ho,r⟩:=id hn
 have fC:qhp X pins (upd H' s2.heap.objs.size (.lst ys)) C:=by
   have f:=I2.fpOk (H':=H') (b:=C) (Nat.le_of_lt hC) IY.free
   refine ⟨by rw [qaz (Ne.symm (Nat.ne_of_lt hC))];exact IY.free,f.2⟩
 show wpAny (model X.prog X.w) X.A (assign (.Name y py) X.env (.ref s2.heap.objs.size)) (fun _ s''=>∃m,s''.heap.Ns C m∧∀h',Heap.SameBut C s''.heap h'→SP X pins D .next { s'' with heap:=h' }) X.xe s'
 have I3p:Inv X (pins++[(C,o)]) σ (upd H' s2.heap.objs.size (.lst ys)) s':=I3.pins_of fun p hp=>by
   rcases List.mem_append.mp hp with z | z
   · exact I3.pin p (List.mem_append_right _ z)
   · have e:p=(C,o):=by simpa using z
     subst e
     exact ⟨ho,fC.1,fC.2.1,fC.2.2.1,fun v z=>by rw [r.1] at z;cases z⟩
 refine wpAny_assign_Name (qeY I3p hN hyi (.inl hy) (v := .ref s2.heap.objs.size) rfl (fun s4 I4=>?_) (.inr hy))
 have a4:=I4.pin (C,o) (List.mem_append_right _ (List.mem_append_right _ (by simp)))
 refine ⟨m,⟨o,es,ep,a4.1,r⟩,fun h' hs'=>⟨_,_,?_,zz.2 _ en⟩⟩
 exact (I4.unpinned).turned (t':=s4.toks) (fun b o' hb q=>hs'.extBut b o' hb q) fC.1 fC.2.1 fC.2.2.2.1 fC.2.2.2.2.1 fC.2.2.2.2.2
end
end L2
namespace Fam
section
variable {m:Nat} {o:List Nat} {f g:Nat→Bool}
end
end Fam
namespace L2
open PySem PySem.Spec PyProof.Rows
section
variable {m:Nat} {o cs cs':List Nat}
end
theorem qdd {X:Cx} {K:PySem.W.Frag} {tg l:Expr} {tl:TE} (hK:X.K=K) (hl:PE X l tl):PI X tg l (qmn K tl):=hK▸qaM hl
end L2
namespace Fam
end Fam
namespace Fam
end Fam
namespace L2
open PySem PySem.Spec PyProof.Rows
section
variable {X:Cx}
theorem qlT:qcV X (.builtin "len") (fun xs H Q=>∃p kvs,xs=[.ref p]∧H p=some (.dK kvs)∧Q (.int kvs.length) H):=by
 intro pins s σ H xs us Q I r h
 obtain ⟨p,kvs,rfl,hH,q⟩:=h
 obtain ⟨u,rfl,ru⟩:=qdD r
 cases ru
 obtain ⟨z,y,vs,kv,d⟩:=I.hok p _ hH
 have hl:kvs.length=vs.length:=Paired.length kv
 have zz:sizeLine<2^63:=by decide
 refine call_len_dict y d (by omega) ⟨.int _,H,I.tok _,⟨_,by rw [hl]⟩,q⟩
end
end L2
namespace L2
open PySem PySem.Spec PyProof.Rows
abbrev sV (ys:List Str):List V:=ys.map V.str
theorem qhi:∀{ys:List Str} {us:List Value},qbd (sV ys) us→StrsAre us ys
 | [],_,.nil => .nil
 | y::ys,_,.cons r t=>by
   obtain ⟨k,rfl⟩:=(show ∃k,_=Value.str y k from r)
   exact .cons y k (qhi t)
theorem qfZ:∀(l:List (Str×Tok)),qbd (sV (l.map (·.1))) (strValues l)
 | [] => .nil
 | (y,t)::l => .cons ⟨t,rfl⟩ (qfZ l)
section
variable {X:Cx}
def qrT (K:PySem.W.Frag):V→List V→Hp→VK→Prop:=fun x vs H Q=>∃(sep:Str) (l:Addr) (ys:List Str),x = .str sep∧vs=[.ref l]∧SqL K H l (sV ys)∧(ys.map (·.length)).sum+ys.length*sep.length≤16777216∧Q (.str (Txt.join sep ys)) H
theorem qbP {K:PySem.W.Frag} (hK:X.K=K):MtM X "str.join" (qrT K):=by
 subst hK
 intro pins s σ H x vs v us Q I rx rv h
 obtain ⟨sep,l,ys,rfl,rfl,hq,hz,q⟩:=h
 obtain ⟨t,rfl⟩:=rx
 obtain ⟨u,rfl,ru⟩:=rv.one
 cases (show u=Value.ref l from ru)
 obtain ⟨its,r,p,_⟩:=I.list hq
 exact join_list p.isList (by simpa using qhi r) hz fun t' k=>⟨.str _,H,I.tok k,⟨_,rfl⟩,q⟩
def qpU:V→List V→Hp→VK→Prop:=fun x vs H Q=>∃(z y:Str),x = .str z∧vs=[.str y]∧(y.length==0)=false∧z.length≤100000∧∀l,H l=none→Q (.ref l) (upd H l (.lst (sV (Txt.split z y))))
theorem qbW:MtM X "str.split" qpU:=by
 intro pins s σ H x vs v us Q I rx rv h
 obtain ⟨z,y,rfl,rfl,hy,hz,q⟩:=h
 obtain ⟨t,rfl⟩:=rx
 obtain ⟨u,rfl,ru⟩:=rv.one
 obtain ⟨t2,rfl⟩:=ru
 have hl:=split_le z y
 have e24:sizeLine=16777216:=sizeLine_eq
 have fin:∀(l:List (Str×Tok)) (k:Nat),l.map (·.1)=Txt.split z y→EP X pins σ Q (.ref s.heap.objs.size) { s with heap:=s.heap.push { cls := .type "list",data := .seq (strValues l).toArray },toks:=k }:=fun l k e =>
   ⟨.ref s.heap.objs.size,_,I.lnew (ys:=sV (Txt.split z y)) (t':=k) (by rw [←e];exact qfZ l) (by rw [List.length_map];omega),rfl,q _ I.fresh⟩
 cases h1:(decide (z.length<y.length)||decide (Builtin.Str.strKind z<Builtin.Str.strKind y)) with
 | true=>exact call_meets F.slot_str_split (typeIs_str _ _ _) F.entry_str_split (F.args_str_split_2 _ _) (meets_str_split_cannot_occur z y t t2 h1) (fin [(z,t)] s.toks (if_pos h1).symm)
 | false =>
   cases h2:(Builtin.Str.occurrences z y 0 z.length (z.length+1)).isEmpty with
   | true=>exact call_meets F.slot_str_split (typeIs_str _ _ _) F.entry_str_split (F.args_str_split_2 _ _) (meets_str_split_not_found z y t t2 h1 hy h2) (fin [(z,t)] s.toks ((if_neg (ne_true_of_eq_false h1)).trans (if_pos h2)).symm)
   | false =>
     have es:Txt.split z y=Builtin.Str.partsBetween z (Builtin.Str.occurrences z y 0 z.length (z.length+1)) y.length:=(if_neg (ne_true_of_eq_false h1)).trans (if_neg (ne_true_of_eq_false h2))
     refine call_meets F.slot_str_split (typeIs_str _ _ _) F.entry_str_split (F.args_str_split_2 _ _) (meets_str_split_sep z y t t2 h1 hy h2 (by omega) (by rw [←es];omega)) ?_
     rw [strsFrom_eq]
     exact fin (numbered s.toks _) _ ((numbered_texts _ _).trans es.symm)
def qsp:V→Option Int→Option Int→Hp→VK→Prop:=fun x lo hi H Q=>∃z:Str,x = .str z∧z.length≤100000∧Q (.str (Txt.slice z lo hi)) H
theorem qjB {v:Value} {o:Option Int} (h:IsPart v o):∃p:Option (Int×Tok),v=partValue p∧p.map (·.1)=o:=by
 cases h with
 | none=>exact ⟨none,rfl,rfl⟩
 | int=>exact ⟨some (_,_),rfl,rfl⟩
theorem qnN:SlR X qsp:=by
 intro pins s σ H x v vl vu lo hi sl Q I rx hs pl pu h
 obtain ⟨z,rfl,hz,q⟩:=h
 obtain ⟨t,rfl⟩:=rx
 obtain ⟨a,rfl,rfl⟩:=qjB pl
 obtain ⟨b,rfl,rfl⟩:=qjB pu
 have e24:sizeLine=16777216:=sizeLine_eq
 refine ⟨"str",_,F.slot_str_getitem.lookup,typeIs_str _ _ _,wpAny_getItem_str_slice (l:=a) (u:=b) (st:=none) hs rfl (post_val_or_str ⟨Nat.le_trans (Txt.slice_le z _ _) (by omega),fun t' k=>?_⟩)⟩
 exact ⟨.str _,H,I.tok k,⟨_,rfl⟩,q⟩
theorem qhD:OpR X (compareOp .LtE) (fun x y H Q=>∃i j,x = .str i∧y = .str j∧Q (.bl (!decide (j.cps.toList<i.cps.toList))) H):=by
 intro pins s σ H x y v u Q I rx ry h
 obtain ⟨i,j,rfl,rfl,q⟩:=h
 obtain ⟨t,rfl⟩:=rx
 obtain ⟨t',rfl⟩:=ry
 exact P.le_str (qaR I q rfl)
def qn7:V→List V→Hp→VK→Prop:=fun x vs H Q=>∃(l:Addr) (ys:List Str) (k:Str),x = .ref l∧vs=[.str k]∧H l=some (.lst (sV ys))∧k∈ys∧ys.length≤1000∧Q (.int (ys.idxOf k:Nat)) H
theorem qeq (k:Str):∀{vs:List Value} {ys:List Str},StrsAre vs ys→∀(i:Nat) (h1:i<vs.length) (h2:i<ys.length),isStrOf k vs[i]=(ys[i]==k)
 | _,_,.nil,i,h1,_=>absurd h1 (Nat.not_lt_zero i)
 | _,_,.cons y t r,0,_,_=>rfl
 | _,_,.cons y t r,i+1,h1,h2=>qeq k r i (Nat.lt_of_succ_lt_succ h1) (Nat.lt_of_succ_lt_succ h2)
theorem StrsAre.len:∀{vs:List Value} {ys:List Str},StrsAre vs ys→vs.length=ys.length
 | _,_,.nil=>rfl
 | _,_,.cons y t r=>congrArg (· + 1) (StrsAre.len r)
theorem qjA:∀{ys:List Str} {k:Str} {j:Nat},j<ys.idxOf k→∀h:j<ys.length,(ys[j]==k)=false
 | [],_,j,_,h=>absurd h (Nat.not_lt_zero j)
 | y::ys,k,j,w,h=>by
   rw [List.idxOf_cons] at w
   cases c:y==k with
   | true=>rw [c] at w;exact absurd w (by simp)
   | false =>
     rw [c] at w
     cases j with
     | zero=>exact c
     | succ j =>
       have w:j+1<ys.idxOf k+1:=w
       exact qjA (ys:=ys) (by omega) (Nat.lt_of_succ_lt_succ h)
theorem qd8:MtM X "list.index" qn7:=by
 intro pins s σ H x vs v us Q I rx rv h
 obtain ⟨l,ys,k,rfl,rfl,hH,hk,hb,q⟩:=h
 cases rx
 obtain ⟨u,rfl,ru⟩:=rv.one
 obtain ⟨t,rfl⟩:=ru
 obtain ⟨z,its,n,r,hl,e⟩:=I.lstM hH
 have hi:=qhi r
 have hlen:=StrsAre.len hi
 have hj:ys.idxOf k<ys.length:=List.idxOf_lt_length_iff.mpr hk
 refine call_meets PySem.F.slot_list_index ⟨_,e,rfl⟩ PySem.F.entry_list_index (PySem.F.args_list_index_2 _ _) (SeqAt.list_indexAt l its.toArray n none #[] (.str k t) (isStrOf k) (ys.idxOf k) (by rw [List.size_toArray];omega) (by omega) ?_ fun j w1 w2=>?_) ⟨e,fun y hy=>(eq_isStrOf k t hi y (by simpa using hy)).at _ _,?_⟩
 · exact (qeq k hi _ (by omega) hj).trans (by simp)
 · refine (qeq k hi j (by simpa using w1) (by omega)).trans ?_
   exact qjA w2 _
 · exact ⟨.int _,H,I.tok _,⟨_,rfl⟩,q⟩
end
end L2
namespace L2
open PySem PySem.Spec PyProof.Rows
def Its (z:Str):It:=⟨fun i _=>i<z.length,fun i H x H'=>H'=H∧∃c,z.cps[i]?=some c∧x = .str ⟨#[c]⟩,fun i _=>z.length≤i⟩
theorem qmS {P:Program} {w:World} {K:PySem.W.Frag} {tg:Expr} (z:Str) (t:Tok) (it:Addr):ql2 P w K tg (Its z) [it] it (fun i h=>h.IsStrIter it "str_ascii_iterator" z t i) where
 mem:=by simp
 obj:=fun i h J b hb=>by
   obtain rfl:b=it:=by simpa using hb
   obtain ⟨oi,e1,_,e3⟩:=J
   exact ⟨oi,e1,fun v z=>by rw [e3] at z;cases z⟩
 keep:=fun i h h' J k=>by
   obtain ⟨oi,e1,r⟩:=J
   exact ⟨oi,k it (by simp) oi e1,r⟩
 item:=by
   intro X hP hw hK hc i pins s σ H E I hf J hg
   subst hP hw hK
   have hi:i<z.cps.size:=hg
   have hx:z.cps[i]?=some z.cps[i]:=Array.getElem?_eq_getElem hi
   obtain ⟨f0,f1,f2,f3,f4,f5⟩:=hf it (by simp)
   refine wpAny_pyNext_ascii_item J hx fun h' J' sb=>?_
   have I1:Inv X pins σ H { s with heap:=h',toks:=s.toks+1 }:=I.turned (fun b o hb e=>(sb.2 b hb).trans e) f0 f1 f3 f4 f5
   obtain ⟨oj,e1,e2,e3⟩:=id J'
   exact ⟨_,rfl,qkV (s:={ s with heap:=h',toks:=s.toks+1 }) e1 e2 e3 (by decide) ⟨.str ⟨#[z.cps[i]]⟩,H,I1,⟨_,rfl⟩,⟨rfl,_,hx,rfl⟩,J',fun b hb=>(hf b hb).1⟩⟩
 done:=by
   intro X hP hw hK hc i pins s σ H E I hf J hg
   subst hP hw hK
   obtain ⟨f0,f1,f2,f3,f4,f5⟩:=hf it (by simp)
   exact wpAny_pyNext_ascii_end (I.ok.hd hc) J (Array.getElem?_eq_none hg) fun h' eb=>⟨rfl,I.turned (t':=s.toks) (fun b o hb e=>eb b o hb e) f0 f1 f3 f4 f5⟩
 self:=fun _ _ _ _ _ J q=>wpAny_pyIter_striter_ascii J q
def qrX (tl:TE):TI:=fun σ H R=>tl σ H fun x H1=>∃z:Str,x = .str z∧z.cps.all (· < 128)=true∧R (Its z) H1
section
variable {X:Cx} {tg:Expr}
theorem qqv {l:Expr} {tl:TE} (hl:PE X l tl):PI X tg l (qrX tl):=by
 intro pins s σ H R I h
 refine thn (hl pins s σ H _ I h) fun v s1 ⟨x,H1,I1,r1,z,ex,ha,q⟩=>?_
 subst ex
 obtain ⟨t,rfl⟩:=r1
 refine wpAny_pyIter_ascii ha ⟨s1.heap.objs.size,[s1.heap.objs.size],_,_,H1,rfl,I1.kept (t':=s1.toks) fun b o e=>Heap.get?_push_of_some _ e,qmS z t _,⟨_,Heap.get?_push_size _ rfl,rfl,rfl⟩,fun b hb=>?_,q⟩
 obtain rfl:b=s1.heap.objs.size:=by simpa using hb
 exact I1.fpOk (Nat.le_refl _) (I1.hok.fresh (Nat.le_refl _))
end
section
variable {g:TG} {tb:TS} {D:qgd} {σ:St} {H:Hp} {z:Str} {nt:Nat} {caps:List Nat} {tt:TT} {te tl:TE} {Q:VK}
theorem qqh:qnl (qrX tl) g tb D σ H↔tl σ H fun x H1=>∃z:Str,x = .str z∧z.cps.all (· < 128)=true∧qet (Its z) g tb D σ H1:=Iff.rfl
theorem qoN:qfV nt caps (qrX tl) g tt te σ H Q↔tl σ H fun x H1=>∃z:Str,x = .str z∧z.cps.all (· < 128)=true∧qdo (Its z) nt caps g tt te σ H1 Q:=Iff.rfl
def sgs (z:Str):List Nat:=z.cps.toList
theorem qo9 (z:Str):(sgs z).length=z.length:=by simp [sgs,Str.length]
theorem qpX {z:Str} {i:Nat}:(sgs z)[i]?=z.cps[i]?:=by simp [sgs]
theorem qex (c:Nat→Bool) (fs:List Nat) (i x:Nat) (hx:fs[i]?=some x):(fs.take (i+1)).filter c=(fs.take i).filter c++if c x=true then [x] else []:=by
 rw [List.take_add_one,hx,List.filter_append]
 cases h:c x<;>simp [h]
theorem qqA (c:Nat→Bool) (f:Nat→V) (hz:z.length≤100000)
   (hs:∀x∈sgs z,∀H1,qau H H1→∀(R:VK) (R':Hp→Prop),(c x=true→∀H2,qau H1 H2→R (f x) H2)→(c x=false→∀H2,qau H1 H2→R' H2) →
     g (.str ⟨#[x]⟩) (qbm nt caps σ) H1 fun σ4 H4=>tt σ4 H4 fun b H5=>if b=true then te σ4 H5 R else R' H5)
   (hd:∀H1 p,qau H H1→H1 p=none→Q (.ref p) (upd H1 p (.lst (((sgs z).filter c).map f)))):qdo (Its z) nt caps g tt te σ H Q:=by
 have e24:sizeLine=16777216:=sizeLine_eq
 refine ⟨fun i m ys H1=>m=z.length-i∧i≤z.length∧qau H H1∧ys=(((sgs z).take i).filter c).map f,⟨_,rfl,Nat.zero_le _,qau.refl _,rfl⟩,?_⟩
 rintro i m ys H2 ⟨rfl,hi,sm,rfl⟩
 have ln:((((sgs z).take i).filter c).map f).length≤i:=by
   rw [List.length_map]
   exact Nat.le_trans (List.length_filter_le _ _) (by rw [List.length_take];omega)
 rcases Nat.lt_or_ge i z.length with k | k
 · refine .inr ⟨k,by omega,fun x H3 y=>?_⟩
   obtain ⟨rfl,cc,k1,rfl⟩:=y
   have k2:(sgs z)[i]?=some cc:=qpX.trans k1
   have ex:=qex c (sgs z) i cc k2
   refine hs cc (List.mem_of_getElem? k2) _ sm _ _ (fun hc H4 s4=>⟨z.length-(i+1),by omega,rfl,k,sm.trans s4,?_⟩) fun hc H4 s4=>⟨z.length-(i+1),by omega,rfl,k,sm.trans s4,?_⟩
   · rw [ex,hc,if_pos rfl,List.map_append]
     rfl
   · rw [ex,hc,if_neg Bool.false_ne_true,List.append_nil]
 · obtain rfl:i=z.length:=by omega
   refine .inl ⟨Nat.le_refl _,by omega,fun p hp=>?_⟩
   rw [show (sgs z).take z.length=sgs z from by rw [←qo9];exact List.take_length]
   exact hd H2 p sm hp
end
section
variable {X:Cx} {K:PySem.W.Frag}
def qso (K:PySem.W.Frag):List V→Hp→VK→Prop:=fun xs H Q=>∃(l:Addr) (bs:List Bool),xs=[.ref l]∧SqL K H l (bs.map V.bl)∧Q (.bl (bs.all id)) H
theorem qmx (hc:X.calm=true) (hK:X.K=K):qcV X (.builtin "all") (qso K):=by
 subst hK
 intro pins s σ H xs us Q I r h
 obtain ⟨l,bs,rfl,hq,q⟩:=h
 obtain ⟨u,rfl,ru⟩:=qdD r
 cases (show u=Value.ref l from ru)
 obtain ⟨its,rv,p,hz⟩:=I.list hq
 have hl:=rv.length
 rw [List.length_map] at hl
 have hlt:l<s.heap.objs.size:=by
   obtain ⟨o,e,_⟩:=p.isList
   exact Heap.lt_size e
 refine call_all_walk (wpAny_pyIter_list p.isList ?_)
 refine ⟨s.heap.objs.size,_,_,_,_,_,fun i=>bs.getD i true,rfl,Walks.list (A:=X.A.in1) (I.ok.hd hc) _ l (Nat.ne_of_lt hlt) its.toArray,⟨⟨_,Heap.get?_push_size _ rfl,rfl,rfl⟩,?_⟩,fun i v s2 Q2 E2 hv hQ=>?_,fun h' tk hk=>?_⟩
 · obtain ⟨o,e,rr⟩:=p.isList
   exact ⟨o,Heap.get?_push_of_some _ e,rr⟩
 · have hv:its[i]?=some v:=by simpa using hv
   have hi:i<bs.length:=by
     have:=(List.getElem?_eq_some_iff.mp hv).1
     omega
   obtain ⟨u2,h2,r2⟩:=rv.get (i:=i) (x := .bl bs[i]) (by rw [List.getElem?_map,List.getElem?_eq_getElem hi];rfl)
   rw [hv] at h2
   cases h2
   cases (show v=Value.bool bs[i] from r2)
   have hQ:Q2 (bs.getD i true) s2:=hQ
   rw [List.getD_eq_getElem?_getD,List.getElem?_eq_getElem hi] at hQ
   exact wpAny_pure hQ
 · have e:(List.range its.toArray.size).all (fun i=>bs.getD i true)=bs.all id:=by
     rw [List.size_toArray,←hl,Bool.eq_iff_iff,List.all_eq_true,List.all_eq_true]
     constructor
     · intro z b hb
       obtain ⟨j,hj,rfl⟩:=List.mem_iff_getElem.mp hb
       have:=z j (List.mem_range.mpr hj)
       rw [List.getD_eq_getElem?_getD,List.getElem?_eq_getElem hj] at this
       exact this
     · intro z j hj
       have hj:=List.mem_range.mp hj
       rw [List.getD_eq_getElem?_getD,List.getElem?_eq_getElem hj]
       exact z _ (List.getElem_mem hj)
   rw [e]
   refine ⟨.bl _,H,I.kept fun b o z=>?_,rfl,q⟩
   refine hk b o (fun hm=>?_) (Heap.get?_push_of_some _ z)
   have l1:=Heap.lt_size z
   have e1:b=s.heap.objs.size:=by simpa using hm
   rw [e1] at l1
   exact absurd l1 (Nat.lt_irrefl _)
end
end L2
namespace L2
open PySem PySem.Spec PyProof.Rows
def qcQ (v:Nat→Str):Nat→List Str
 | 0=>[]
 | i+1=>if (qcQ v i).any (·==v i) then qcQ v i else qcQ v i++[v i]
theorem qmP (v:Nat→Str) (i:Nat) (k:Str):(qcQ v (i+1)).any (·==k)=((qcQ v i).any (·==k)||decide (k=v i)):=by
 show (if (qcQ v i).any (·==v i) then qcQ v i else qcQ v i++[v i]).any (·==k)=_
 by_cases c:(qcQ v i).any (·==v i)=true
 · rw [if_pos c]
   by_cases e:k=v i
   · rw [e,c];rfl
   · rw [decide_eq_false e,Bool.or_false]
 · rw [if_neg c,List.any_append]
   congr 1
   simp only [List.any_cons,List.any_nil,Bool.or_false]
   rw [Bool.eq_iff_iff,beq_iff_eq,decide_eq_true_eq]
   exact eq_comm
theorem qgT (v:Nat→Str) (i:Nat):(qcQ v (i+1)).length=if (qcQ v i).any (·==v i) then (qcQ v i).length else (qcQ v i).length+1:=by
 show (if (qcQ v i).any (·==v i) then qcQ v i else qcQ v i++[v i]).length=_
 split
 · rfl
 · simp
theorem qlj (v:Nat→Str):∀i,(qcQ v i).length≤i
 | 0=>Nat.le_refl _
 | i+1=>by
   rw [qgT]
   have:=qlj v i
   split<;>omega
section
variable {prog:Program} {w:World} {A:Around} {R:Result→Shared→Prop} {I:Addr} {fp wr:List Addr} {G:Array GenState→Array GenState→Prop} {n:Nat} {P:Nat→Value→Prop} {St:Nat→Shared→Prop}
theorem qmj (W:WalksS prog w A.in1 I fp wr G n P St) (a:Addr) (na:a∉fp) (val:Nat→Str) (hv:∀i v,P i v→∃t,v = .str (val i) t) (few:n+1<scanBound) :
   ∀(k i:Nat) (s:Shared),n-i=k→i≤n→St i s→s.heap.SetOf (PySem.strKind prog w) a (fun x=>(qcQ val i).any (·==x)) (qcQ val i).length →
     (∀s',Moved (a::wr) G s s'→s'.heap.SetOf (PySem.strKind prog w) a (fun x=>(qcQ val n).any (·==x)) (qcQ val n).length→R (.ok (.ret .none)) s') →
     codeAny (model prog w) A (.builtin "set.update.loop" ⟨[.ref a,.ref I],[]⟩) R s:=by
 have nw:a∉wr:=fun z=>na (W.sub _ z)
 have qnX:∀b∈wr,b∈a::wr:=fun b z=>List.mem_cons_of_mem _ z
 have keepS:∀{j:Nat} {s s':Shared},Moved wr G s s'→s.heap.SetOf (PySem.strKind prog w) a (fun x=>(qcQ val j).any (·==x)) (qcQ val j).length→s'.heap.SetOf (PySem.strKind prog w) a (fun x=>(qcQ val j).any (·==x)) (qcQ val j).length:=fun {j s s'} mv z=>by
   obtain ⟨o,es,ep,t,ho,rr⟩:=z
   exact ⟨o,es,ep,t,mv.heap a _ nw ho,rr⟩
 intro k
 induction k with
 | zero =>
   intro i s hk hi hst hS hR
   obtain rfl:i=n:=by omega
   refine codeAny_builtin F.entry_set_update_loop ?_
   rw [Around.under_plainId F.plain_set_update_loop _]
   refine (wpAny_bind (m:=pyNext (.ref I)) (W.done s _ _ hst fun s' mv=>?_))
   exact wpAny_pure (hR s' (mv.mono qnX) (keepS mv hS))
 | succ k ih =>
   intro i s hk hi hst hS hR
   have lt:i<n:=by omega
   refine codeAny_builtin F.entry_set_update_loop ?_
   rw [Around.under_plainId F.plain_set_update_loop _]
   refine (wpAny_bind (m:=pyNext (.ref I)) (W.item i s _ _ lt hst fun v s' pv st' mv=>?_))
   obtain ⟨t,rfl⟩:=hv i v pv
   have hS1:=keepS mv hS
   refine wpAny_bind (m:=holding [Value.str (val i) t] (setAdd a (.str (val i) t))) (wpAny_holding ?_)
   unfold setAdd
   refine (wpAny_holding ?_)
   have isv:(PySem.strKind prog w).is (val i) (.str (val i) t)=true:=strKind_is _ _ _ _
   refine wpAny_bind ((PySem.strKind prog w).pyHash (k:=val i) isv ?_)
   refine wpAny_setAddHashed_of (knd:=PySem.strKind prog w) (s:={ s' with toks:=s'.toks+1 }) isv rfl hS1 (by have:=qlj val i;omega) fun h' sb hS2=>?_
   have hS3:h'.SetOf (PySem.strKind prog w) a (fun x=>(qcQ val (i+1)).any (·==x)) (qcQ val (i+1)).length:=SetOf_congr hS2 (fun x=>(qmP val i x).symm) (qgT val i).symm
   refine wpAny_pure ⟨plainId_quiet F.plain_set_update_loop _,ih (i+1) _ (by omega) lt (W.frame _ s' _ _ st' (Nat.le_succ _) fun b hb o e=>?_) hS3 fun s2 mv2 hS4=>?_⟩
   · exact (sb.2 b (fun z:b=a=>na (z▸hb))).trans e
   · refine hR s2 (Moved.trans W.gtrans ((mv.mono qnX).then_heap (Nat.le_succ _) fun b o hb e=>?_) mv2) hS4
     exact (sb.2 b (fun z:b=a=>hb (by rw [z];exact List.mem_cons_self))).trans e
end
theorem qlR:∀{vs:List Value} {ys:List Str},StrsAre vs ys→∀(i:Nat) (v:Value),vs[i]?=some v→∃t,v = .str (ys.getD i Str.empty) t
 | _,_,.nil,i,v,h=>by simp at h
 | _,_,.cons y t r,0,v,h=>by cases h;exact ⟨t,rfl⟩
 | _,_,.cons y t r,i+1,v,h=>qlR r i v (by simpa using h)
section
variable {prog:Program} {w:World} {A:Around} {E:Value→Shared→Prop} {s:Shared}
abbrev es0 (led:Bool):Obj:={ cls := .type "set",dict:=none,data := .set #[] 0 (.fresh 0 0 led) }
set_option maxHeartbeats 3200000 in
theorem qmK {l:Addr} {items:Array Value} {ys:List Str} {Q:Value→Shared→Prop} (hh:A.handled=none) (hl:s.heap.IsList l items) (hi:StrsAre items.toList ys) (few:items.size+1<scanBound)
   (k:∀(h':Heap) (tk:Nat),h'.SetOf (PySem.strKind prog w) s.heap.objs.size (fun x=>(qcQ (fun i=>ys.getD i Str.empty) items.size).any (·==x)) (qcQ (fun i=>ys.getD i Str.empty) items.size).length →
     (∀b o,b<s.heap.objs.size→s.heap.get? b=some o→h'.get? b=some o)→Q (.ref s.heap.objs.size) { s with heap:=h',toks:=tk }) :
   wpAny (model prog w) A (call (.type "set") [.ref l]) Q E s:=by
 obtain ⟨c,tl,hmro⟩:=(F.called_set.mro)
 have k1:=F.called_set.made
 have k2:=F.called_set.sub
 refine (wpAny_call (codeAny_of_tree ?_))
 show wpAny _ _ (callAny (.type "set") _) _ _ s
 refine (wpAny_pure ⟨Code.quiet_builtin _ (by decide +kernel),codeAny_builtin F.entry_type_call ?_⟩)
 rw [Around.under_plain (weight_type_call_type "set" [.ref l] []) rfl]
 have k3:=F.called_set.notType
 have k4:=F.called_set.canCreate
 have k5:=F.typeCall_set_1 (.ref l)
 repeat (any_goals (first | assumption | wp_step))
 refine codeAny_mono (code_set_new_1 (.ref l) (E:=E) (Q₁:=fun ob s1=>∃led:Bool,ob = .ref s.heap.objs.size∧s1={ s with heap:=s.heap.push (es0 led) }) fun led=>⟨led,rfl,rfl⟩) fun r s1 hr=>?_
 cases r with
 | error e=>exact hr
 | ok fl =>
   cases fl with
   | ret ob =>
     obtain ⟨led,rfl,rfl⟩:=hr
     have at0:(s.heap.push (es0 led)).get? s.heap.objs.size=some (es0 led):=Heap.get?_push_size _ rfl
     have ty0:Shared.TypeIs { s with heap:=s.heap.push (es0 led) } (.ref s.heap.objs.size) "set" := ⟨_,at0,rfl⟩
     have k6:=F.called_set.init.lookup
     have k7:=F.called_set.init.bind (.ref s.heap.objs.size)
     repeat (any_goals (first | assumption | wp_step))
     refine codeAny_mono (codeAny_call_builtin (R:=wants (fun r s2=>r = .none∧∃h' tk,s2={ s with heap:=h',toks:=tk } ∧
         h'.SetOf (PySem.strKind prog w) s.heap.objs.size (fun x=>(qcQ (fun i=>ys.getD i Str.empty) items.size).any (·==x)) (qcQ (fun i=>ys.getD i Str.empty) items.size).length ∧
         (∀b o,b<s.heap.objs.size→s.heap.get? b=some o→h'.get? b=some o)) E) F.called_set.init.plain F.entry_set_init (check_set_init_1 ty0 ?_)) fun r2 s2 hr2=>?_
     · obtain ⟨ol,at1,c1,nl,d1⟩:=hl
       obtain ⟨o1,o2,o3,o4⟩:=ol
       simp only at c1 d1
       subst c1
       subst d1
       have at2:(s.heap.push (es0 led)).get? l=some { cls := .type "list",dict:=o2,data := .seq items nl,slots:=o4 }:=Heap.get?_push_of_some _ at1
       have k8:=F.sub_list_set
       have k9:=F.sub_list_frozenset
       have k10:(Value.type "list" == Value.type "dict")=false:=by decide
       have il:(s.heap.push (es0 led)).IsList l items:=⟨_,at2,rfl,nl,rfl⟩
       unfold Builtin.«set.__init__» noKeywords Builtin.Frozenset.updateFrom
       generalize gPI:pyIter=PI
       wp_walk
       subst gPI
       refine (wpAny_pyIter_list il ?_)
       refine (wpAny_bind (wpAny_runValue ?_))
       have l0:l<s.heap.objs.size:=Heap.lt_size at1
       have h3:A.in1.in1.in1.handled=none:=by simp [hh]
       have n1:l≠(s.heap.push (es0 led)).objs.size:=by
         rw [Heap.size_push]
         exact Nat.ne_of_lt (Nat.lt_succ_of_lt l0)
       have n2:s.heap.objs.size∉[(s.heap.push (es0 led)).objs.size,l]:=by
         rw [Heap.size_push]
         simp only [List.mem_cons,List.mem_singleton,List.not_mem_nil,or_false,not_or]
         exact ⟨Nat.ne_of_lt (Nat.lt_succ_self _),Nat.ne_of_gt l0⟩
       refine qmj ((Walks.list h3 _ l n1 items).toS) s.heap.objs.size n2 (fun i=>ys.getD i Str.empty) (fun i v hv=>qlR hi i v (by rw [Array.getElem?_toList];exact hv)) few (items.size-0) 0 _ (by omega) (Nat.zero_le _)
         ⟨⟨_,Heap.get?_push_size _ rfl,rfl,rfl⟩,(il.push _)⟩ ?h0 ?hR
       case h0=>exact SetOf_congr ((setObjOf_fresh (knd:=PySem.strKind prog w) led).setOf (Heap.get?_push_of_some _ at0) (by unfold scanBound;omega)) (fun _=>rfl) rfl
       case hR =>
         intro s' mv hS'
         obtain ⟨h',g',d',tk',os'⟩:=s'
         cases (show g'=s.gens from mv.gens)
         cases (show d'=s.drawn from mv.drawn)
         cases (show os'=s.os from mv.os)
         refine (wpAny_pure ?_)
         show wpAny _ _ (ret Value.none) _ _ _
         refine wpAny_pure ⟨rfl,h',tk',rfl,hS',fun b o hb e=>mv.heap b o ?_ (Heap.get?_push_of_some _ (Heap.get?_push_of_some _ e))⟩
         simp only [List.mem_cons,List.mem_singleton,List.not_mem_nil,or_false,not_or]
         exact ⟨Nat.ne_of_lt hb,by rw [Heap.size_push];exact Nat.ne_of_lt (Nat.lt_succ_of_lt hb)⟩
     · cases r2 with
       | error e=>exact hr2
       | ok fl2 =>
         cases fl2 with
         | ret r =>
           obtain ⟨rfl,h',tk,rfl,z1,z2⟩:=hr2
           repeat (any_goals (first | assumption | wp_step))
           exact k _ _ z1 z2
         | _=>exact hr2.elim
   | _=>exact hr.elim
end
def cnt (ys:List Str):Nat:=(qcQ (fun i=>ys.getD i Str.empty) ys.length).length
abbrev SsO (P:Program) (w:World) (a:Addr) (n:Nat):HO := .ext fun h=>∃S:Str→Bool,h.SetOf (PySem.strKind P w) a S n
section
variable {X:Cx} {P:Program} {w:World} {K:PySem.W.Frag}
def qrt (P:Program) (w:World) (K:PySem.W.Frag):List V→Hp→VK→Prop:=fun xs H Q=>∃(l:Addr) (ys:List Str),xs=[.ref l]∧SqL K H l (sV ys)∧ys.length≤1000∧∀p,H p=none→Q (.ref p) (upd H p (SsO P w p (cnt ys)))
theorem qly (hP:X.prog=P) (hw:X.w=w) (hK:X.K=K) (hc:X.calm=true):qcV X (.type "set") (qrt P w K):=by
 subst hP hw hK
 intro pins s σ H xs us Q I r h
 obtain ⟨l,ys,rfl,hq,hn,q⟩:=h
 obtain ⟨u,rfl,ru⟩:=qdD r
 cases (show u=Value.ref l from ru)
 obtain ⟨its,rv,p,hz⟩:=I.list hq
 have hi:=qhi rv
 have hl:=StrsAre.len hi
 refine qmK (I.ok.hd hc) p.isList (ys:=ys) (by simpa using hi) (by rw [List.size_toArray,hl];unfold scanBound;omega) fun h' tk hS kp=>?_
 have hS2:h'.SetOf (PySem.strKind X.prog X.w) s.heap.objs.size (fun x=>(qcQ (fun i=>ys.getD i Str.empty) ys.length).any (·==x)) (cnt ys):=by
   have hsz:its.toArray.size=ys.length:=by rw [List.size_toArray,hl]
   rw [hsz] at hS
   exact hS
 refine ⟨.ref s.heap.objs.size,_,I.laid (o:=SsO X.prog X.w s.heap.objs.size (cnt ys)) (fun b o e=>kp b o (Heap.lt_size e) e) (Nat.le_refl _) ⟨⟨_,hS2⟩,?_,fun h1 h2 ⟨S,z⟩ kk=>?_⟩,rfl,q _ I.fresh⟩
 · obtain ⟨o,_,_,_,e,_⟩:=hS2
   exact ⟨o,e⟩
 · obtain ⟨o,es,ep,t,e,rr⟩:=z
   exact ⟨S,o,es,ep,t,kk o e,rr⟩
def qrB (P:Program) (w:World):List V→Hp→VK→Prop:=fun xs H Q=>∃(p:Addr) (n:Nat),xs=[.ref p]∧H p=some (SsO P w p n)∧n≤1000∧Q (.int (n:Nat)) H
theorem qla (hP:X.prog=P) (hw:X.w=w):qcV X (.builtin "len") (qrB P w):=by
 subst hP hw
 intro pins s σ H xs us Q I r h
 obtain ⟨p,n,rfl,e,hn,q⟩:=h
 obtain ⟨u,rfl,ru⟩:=qdD r
 cases (show u=Value.ref p from ru)
 obtain ⟨S,o,es,ep,t,e1,e2,e3,e4,e5,e6,e7,e8⟩:=(show qbU X.prog X.w H s.heap p (SsO X.prog X.w p n) from I.hok p _ e).1
 have hs:es.size=n:=e8
 exact call_len_set e1 e2 e3 e7 (by omega) ⟨.int (n:Nat),H,I.tok _,⟨_,by rw [hs]⟩,q⟩
end
theorem qdc {X:Cx} {x z:Str} {p:Pos} (h:∃t,X.mg x=some (.str z t)) (hg:Gl X x) (hd:(x==("__debug__" : Str))=false:=by decide):PE X (.Name x p) (tC (.str z)):=by
 obtain ⟨t,h⟩:=h
 exact qer hg h ⟨t,rfl⟩ hd
theorem qmB {D:qgd} {σ:St} {H:Hp} {c:TT} {u:TS}:qk9 (qpN c qnA qkD) u D σ H↔c σ H fun b H1=>if b=true then False else u D σ H1:=Iff.rfl
end L2
namespace Tx
open PySem
abbrev sg (z:Str):List Nat:=z.cps.toList
theorem ext {a b:Str} (h:sg a=sg b):a=b:=by
 obtain ⟨a⟩:=a
 obtain ⟨b⟩:=b
 have:a=b:=Array.toList_inj.mp h
 rw [this]
theorem sg_app (a b:Str):sg (a++b)=sg a++sg b:=by
 show (a.cps++b.cps).toList=_
 simp
def jn (c:Nat):List (List Nat)→List Nat
 | []=>[]
 | [x]=>x
 | x::y::r=>x++c::jn c (y::r)
theorem sg_join (c:Nat):∀ys:List Str,sg (Str.join ⟨#[c]⟩ ys)=jn c (ys.map sg)
 | []=>rfl
 | [x]=>rfl
 | x::y::r=>by
   show sg (x++⟨#[c]⟩++Str.join ⟨#[c]⟩ (y::r))=sg x++c::jn c ((y::r).map sg)
   rw [sg_app,sg_app,sg_join c (y::r),List.append_assoc]
   rfl
theorem jn_cons {c:Nat} {x:List Nat} {r:List (List Nat)} (h:r≠[]):jn c (x::r)=x++c::jn c r:=by
 cases r with
 | nil=>exact absurd rfl h
 | cons y r=>rfl
theorem qnp {c:Nat}:∀{x y a b:List Nat},c∉x→c∉y→x++c::a=y++c::b→x=y∧a=b
 | [],[],a,b,_,_,h=>⟨rfl,by simpa using h⟩
 | [],q::y,a,b,_,hy,h=>by
   have:=List.cons.inj h
   exact absurd (this.1▸List.mem_cons_self) hy
 | p::x,[],a,b,hx,_,h=>by
   have:=List.cons.inj h
   exact absurd (this.1▸List.mem_cons_self) hx
 | p::x,q::y,a,b,hx,hy,h=>by
   have h:=List.cons.inj h
   obtain ⟨e1,e2⟩:=qnp (fun z=>hx (List.mem_cons_of_mem _ z)) (fun z=>hy (List.mem_cons_of_mem _ z)) h.2
   exact ⟨by rw [h.1,e1],e2⟩
theorem qnn {c:Nat}:∀{xs ys:List (List Nat)},xs≠[]→ys≠[]→(∀x∈xs,c∉x)→(∀y∈ys,c∉y)→jn c xs=jn c ys→xs=ys
 | [],_,h,_,_,_,_=>absurd rfl h
 | _,[],_,h,_,_,_=>absurd rfl h
 | [x],[y],_,_,_,_,h=>by rw [show x=y from h]
 | [x],y::q::r,_,_,hx,hy,h=>by
   have h:x=y++c::jn c (q::r):=h
   exact absurd (by rw [h];simp) (hx x List.mem_cons_self)
 | x::p::s,[y],_,_,hx,hy,h=>by
   have h:x++c::jn c (p::s)=y:=h
   exact absurd (by rw [←h];simp) (hy y List.mem_cons_self)
 | x::p::s,y::q::r,_,_,hx,hy,h=>by
   have h:x++c::jn c (p::s)=y++c::jn c (q::r):=h
   obtain ⟨e1,e2⟩:=qnp (hx x List.mem_cons_self) (hy y List.mem_cons_self) h
   rw [e1,qnn (by simp) (by simp) (fun z hz=>hx z (List.mem_cons_of_mem _ hz)) (fun z hz=>hy z (List.mem_cons_of_mem _ hz)) e2]
theorem txt_join (c:Nat) (ys:List Str):sg (Txt.join ⟨#[c]⟩ ys)=jn c (ys.map sg):=by
 rw [show Txt.join ⟨#[c]⟩ ys=Str.join ⟨#[c]⟩ ys from StrLaws.glued_eq_join _ _,sg_join]
theorem qnj:∀{a b:List Str},a.map sg=b.map sg→a=b
 | [],[],_=>rfl
 | [],_::_,h=>by cases h
 | _::_,[],h=>by cases h
 | x::a,y::b,h=>by
   have h:=List.cons.inj h
   rw [ext h.1,qnj h.2]
theorem split_join {c:Nat} {ws:List Str} (h0:ws≠[]) (h:∀w∈ws,c∉sg w):Txt.split (Txt.join ⟨#[c]⟩ ws) ⟨#[c]⟩=ws:=by
 have e1:=StrLaws.join_split (Txt.join ⟨#[c]⟩ ws) ⟨#[c]⟩
 have e2:=congrArg sg e1
 rw [sg_join,txt_join] at e2
 have fr:=StrLaws.split_free (Txt.join ⟨#[c]⟩ ws) c
 refine qnj (qnn (c:=c) (fun z=>?_) (fun z=>h0 (List.map_eq_nil_iff.mp z)) (fun x hx=>?_) (fun x hx=>?_) e2)
 · have:=PyProof.Rows.split_pos (Txt.join ⟨#[c]⟩ ws) ⟨#[c]⟩
   rw [List.map_eq_nil_iff.mp z] at this
   exact absurd this (by decide)
 · obtain ⟨p,hp,rfl⟩:=List.mem_map.mp hx
   exact fr p hp
 · obtain ⟨p,hp,rfl⟩:=List.mem_map.mp hx
   exact h p hp
theorem jn_mem {c d:Nat}:∀{xs:List (List Nat)},d∈jn c xs→d=c∨∃x∈xs,d∈x
 | [],h=>by cases h
 | [x],h => .inr ⟨x,List.mem_cons_self,h⟩
 | x::y::r,h=>by
   have h:d∈x++c::jn c (y::r):=h
   rcases List.mem_append.mp h with z | z
   · exact .inr ⟨x,List.mem_cons_self,z⟩
   · rcases List.mem_cons.mp z with z | z
     · exact .inl z
     · rcases jn_mem z with w | ⟨q,w1,w2⟩
       · exact .inl w
       · exact .inr ⟨q,List.mem_cons_of_mem _ w1,w2⟩
theorem jn_len {c M:Nat}:∀{xs:List (List Nat)},(∀x∈xs,x.length≤M)→(jn c xs).length≤xs.length*(M+1)
 | [],_=>Nat.zero_le _
 | [x],h=>by
   have:=h x List.mem_cons_self
   show x.length≤1*(M+1)
   omega
 | x::y::r,h=>by
   have h1:=h x List.mem_cons_self
   have h2:=jn_len (c:=c) (M:=M) (xs:=y::r) fun z hz=>h z (List.mem_cons_of_mem _ hz)
   show (x++c::jn c (y::r)).length≤_
   rw [List.length_append,List.length_cons]
   have e:(x::y::r).length*(M+1)=(y::r).length*(M+1)+(M+1):=by rw [List.length_cons (a:=x),Nat.add_mul,Nat.one_mul]
   rw [e]
   omega
def Wd (w:Str):Prop:=1≤w.length∧w.length≤8∧∀c∈sg w,97≤c∧c≤122
theorem Wd.free {w:Str} (h:Wd w) {c:Nat} (hc:c<97):c∉sg w:=fun z=>by
 have:=(h.2.2 c z).1
 omega
theorem len_sg (w:Str):(sg w).length=w.length:=by simp [sg,Str.length]
structure Wds (ws:List Str):Prop where
 few:ws.length≤8
 nd:ws.Nodup
 wd:∀w∈ws,Wd w
 no:("none" : Str)∉ws
theorem lit_plus:("+" : Str)=⟨#[43]⟩:=by decide +kernel
theorem lit_space:(" " : Str)=⟨#[32]⟩:=by decide +kernel
theorem lit_dash:("-" : Str)=⟨#[45]⟩:=by decide +kernel
theorem qeX:("none" : Str)=⟨#[110,111,110,101]⟩:=by decide +kernel
theorem lit_empty:("" : Str)=⟨#[]⟩:=by decide +kernel
def wds (ws:List Str) (a:Nat):List Str:=(Fam.nms 8 a).map fun k=>ws.getD k Str.empty
def sT (ws:List Str) (a:Nat):Str:=if a=0 then "-" else Txt.join "+" (wds ws a)
def fT (ws:List Str) (fs:List Nat):Str:=if fs=[] then "none" else Txt.join " " (fs.map (sT ws))
theorem qmv:∀a,a<256→Fam.nms 8 a=[]→a=0:=by decide +kernel
section
variable {ws:List Str} {a:Nat}
theorem nms_lt (ha:a<2^ws.length) {k:Nat} (hk:k∈Fam.nms 8 a):k<ws.length:=by
 have hb:=(Fam.mem_nms.mp hk).2
 rcases Nat.lt_or_ge k ws.length with c | c
 · exact c
 · rw [Nat.testBit_lt_two_pow (Nat.lt_of_lt_of_le ha (Nat.pow_le_pow_right (by decide) c))] at hb
   cases hb
theorem wds_mem (h:Wds ws) (ha:a<2^ws.length) {w:Str} (hw:w∈wds ws a):w∈ws:=by
 obtain ⟨k,hk,rfl⟩:=List.mem_map.mp hw
 have hl:=nms_lt ha hk
 rw [List.getD_eq_getElem?_getD,List.getElem?_eq_getElem hl]
 exact List.getElem_mem hl
theorem lt256 (h:Wds ws) (ha:a<2^ws.length):a<256:=Nat.lt_of_lt_of_le ha (Nat.pow_le_pow_right (n:=2) (by decide) h.few)
theorem wds_ne (h:Wds ws) (ha:a<2^ws.length) (h0:a≠0):wds ws a≠[]:=fun z=>h0 (qmv a (lt256 h ha) (List.map_eq_nil_iff.mp z))
theorem split_sT (h:Wds ws) (ha:a<2^ws.length):Txt.split (sT ws a) "+" = if a=0 then [("-" : Str)] else wds ws a:=by
 rw [lit_plus]
 unfold sT
 by_cases c:a=0
 · rw [if_pos c,if_pos c]
   have:Txt.split (Txt.join ⟨#[43]⟩ [("-" : Str)]) ⟨#[43]⟩=[("-" : Str)]:=split_join (by simp) fun w hw=>by
     rw [List.mem_singleton.mp hw,lit_dash]
     decide
   exact this
 · rw [if_neg c,if_neg c,lit_plus]
   exact split_join (wds_ne h ha c) fun w hw=>(h.wd w (wds_mem h ha hw)).free (by decide)
theorem sT_free (h:Wds ws) (ha:a<2^ws.length):32∉sg (sT ws a):=by
 unfold sT
 by_cases c:a=0
 · rw [if_pos c,lit_dash]
   decide
 · rw [if_neg c,lit_plus,txt_join]
   intro z
   rcases jn_mem z with e | ⟨x,hx,hz⟩
   · exact absurd e (by decide)
   · obtain ⟨w,hw,rfl⟩:=List.mem_map.mp hx
     exact (h.wd w (wds_mem h ha hw)).free (by decide) hz
theorem sT_len (h:Wds ws) (ha:a<2^ws.length):(sT ws a).length≤72:=by
 unfold sT
 by_cases c:a=0
 · rw [if_pos c,lit_dash]
   decide
 · rw [if_neg c,←len_sg,lit_plus,txt_join]
   have h1:=jn_len (c:=43) (M:=8) (xs:=(wds ws a).map sg) fun x hx=>by
     obtain ⟨w,hw,rfl⟩:=List.mem_map.mp hx
     rw [len_sg]
     exact (h.wd w (wds_mem h ha hw)).2.1
   have h2:((wds ws a).map sg).length≤8:=by
     rw [List.length_map]
     unfold wds Fam.nms
     rw [List.length_map]
     exact Nat.le_trans (List.length_filter_le _ _) (by simp)
   exact Nat.le_trans h1 (Nat.mul_le_mul h2 (Nat.le_refl 9))
theorem sT_none (h:Wds ws) (ha:a<2^ws.length):sT ws a ≠ "none" := by
 unfold sT
 by_cases c:a=0
 · rw [if_pos c]
   decide +kernel
 · rw [if_neg c]
   intro z
   have hm:=fun w hw=>wds_mem h ha (w:=w) hw
   have ne:=wds_ne h ha c
   have e:=congrArg sg z
   rw [lit_plus,txt_join,qeX] at e
   cases hw:wds ws a with
   | nil=>exact ne hw
   | cons x r =>
     cases r with
     | nil =>
       rw [hw] at e
       have ex:x = "none" := by
         rw [qeX]
         exact ext e
       exact h.no (ex▸hm x (by rw [hw];exact List.mem_cons_self))
     | cons y r =>
       rw [hw] at e
       have e:sg x++43::jn 43 ((y::r).map sg)=[110,111,110,101]:=e
       have:43∈[110,111,110,101]:=by
         rw [←e]
         simp
       exact absurd this (by decide)
theorem split_fT (h:Wds ws) {fs:List Nat} (hb:∀b∈fs,b<2^ws.length):Txt.split (fT ws fs) " " = if fs=[] then [("none" : Str)] else fs.map (sT ws):=by
 rw [lit_space]
 unfold fT
 by_cases c:fs=[]
 · rw [if_pos c,if_pos c]
   have:Txt.split (Txt.join ⟨#[32]⟩ [("none" : Str)]) ⟨#[32]⟩=[("none" : Str)]:=split_join (by simp) fun w hw=>by
     rw [List.mem_singleton.mp hw,qeX]
     decide
   exact this
 · rw [if_neg c,if_neg c,lit_space]
   refine split_join (fun z=>c (List.map_eq_nil_iff.mp z)) fun w hw=>?_
   obtain ⟨b,hb',rfl⟩:=List.mem_map.mp hw
   exact sT_free h (hb b hb')
theorem fT_len (h:Wds ws) {fs:List Nat} (hb:∀b∈fs,b<2^ws.length) (hn:fs.length≤100):(fT ws fs).length≤7300:=by
 unfold fT
 by_cases c:fs=[]
 · rw [if_pos c,qeX]
   decide
 · rw [if_neg c,←len_sg,lit_space,txt_join]
   have h1:=jn_len (c:=32) (M:=72) (xs:=(fs.map (sT ws)).map sg) fun x hx=>by
     obtain ⟨w,hw,rfl⟩:=List.mem_map.mp hx
     obtain ⟨b,hb',rfl⟩:=List.mem_map.mp hw
     rw [len_sg]
     exact sT_len h (hb b hb')
   rw [List.length_map,List.length_map] at h1
   exact Nat.le_trans h1 (Nat.mul_le_mul hn (Nat.le_refl 73))
theorem idx_wds (h:Wds ws) (ha:a<2^ws.length):(wds ws a).map (fun w=>ws.idxOf w)=Fam.nms 8 a:=by
 unfold wds
 rw [List.map_map]
 have:∀k∈Fam.nms 8 a,((fun w=>ws.idxOf w) ∘ fun k=>ws.getD k Str.empty) k=k:=fun k hk=>by
   have hl:=nms_lt ha hk
   show ws.idxOf (ws.getD k Str.empty)=k
   rw [List.getD_eq_getElem?_getD,List.getElem?_eq_getElem hl,Option.getD_some]
   exact h.nd.idxOf_getElem k hl
 rw [List.map_congr_left this,List.map_id']
end
end Tx
namespace L2
open PySem PySem.Spec PyProof.Rows
theorem qc8 (ys:List Str):(sV ys).all qb0=true:=by
 rw [List.all_eq_true]
 intro x hx
 obtain ⟨z,_,rfl⟩:=List.mem_map.mp hx
 rfl
theorem qhS (a b:List Str):qgh (sV a) (sV b)=decide (a=b):=by
 unfold qgh
 rw [List.length_map,List.length_map]
 by_cases hl:a.length=b.length
 · rw [show (a.length==b.length)=true by simpa using hl,Bool.true_and]
   rw [Bool.eq_iff_iff,List.all_eq_true,decide_eq_true_eq]
   constructor
   · intro h
     refine List.ext_getElem hl fun i h1 h2=>?_
     have q:=h i (List.mem_range.mpr h1)
     simpa [List.getD,h1,h2,eqV] using q
   · rintro rfl j hj
     have hj':=List.mem_range.mp hj
     simp [List.getD,hj',eqV]
 · rw [show (a.length==b.length)=false by simpa using hl,Bool.false_and]
   exact (decide_eq_false fun e=>hl (by rw [e])).symm
theorem qpO (w:Str) (ys:List Str):inV (.str w) (sV ys)=decide (w∈ys):=by
 unfold inV
 rw [Bool.eq_iff_iff,List.any_eq_true,decide_eq_true_eq]
 constructor
 · rintro ⟨x,hx,e⟩
   obtain ⟨z,hz,rfl⟩:=List.mem_map.mp hx
   have:z=w:=by simpa [eqV] using e
   exact this▸hz
 · intro h
   exact ⟨.str w,List.mem_map.mpr ⟨w,h,rfl⟩,by simp [eqV]⟩
theorem qaS (ys:List Str):(sV ys).length=ys.length:=List.length_map _
theorem qc3 {ys:List Str} {i:Nat} {w:Str} (h:ys[i]?=some w):atI (sV ys) (i:Int)=some (.str w):=qaL (by rw [List.getElem?_map,h];rfl)
theorem qkN {M:Nat}:∀{ys:List Str},(∀y∈ys,y.length≤M)→(ys.map (·.length)).sum≤ys.length*M
 | [],_=>Nat.zero_le _
 | y::ys,h=>by
   rw [List.map_cons,List.sum_cons,List.length_cons,Nat.add_mul,Nat.one_mul]
   have h1:=h y List.mem_cons_self
   have h2:=qkN (M:=M) (ys:=ys) fun z hz=>h z (List.mem_cons_of_mem _ hz)
   omega
theorem qa2 {M N:Nat} {ys:List Str} {sep:Str} (h:∀y∈ys,y.length≤M) (hn:ys.length≤N) (hs:sep.length≤1) (hM:N*(M+1)≤16777216):(ys.map (·.length)).sum+ys.length*sep.length≤16777216:=by
 have h1:=qkN h
 have h2:ys.length*sep.length≤ys.length*1:=Nat.mul_le_mul_left _ hs
 have h3:ys.length*(M+1)≤N*(M+1):=Nat.mul_le_mul_right _ hn
 rw [Nat.mul_add] at h3
 omega
theorem qg7 (v:Nat→Str):∀i (w:Str),w∈qcQ v i→∃j,j<i∧w=v j
 | 0,w,h=>by cases h
 | i+1,w,h=>by
   have h:w∈if (qcQ v i).any (·==v i) then qcQ v i else qcQ v i++[v i]:=h
   split at h
   · obtain ⟨j,h1,h2⟩:=qg7 v i w h
     exact ⟨j,by omega,h2⟩
   · rcases List.mem_append.mp h with z | z
     · obtain ⟨j,h1,h2⟩:=qg7 v i w z
       exact ⟨j,by omega,h2⟩
     · exact ⟨i,by omega,List.mem_singleton.mp z⟩
theorem qqd {ys:List Str} (h:ys.Nodup):cnt ys=ys.length:=by
 have all:∀i,i≤ys.length→(qcQ (fun i=>ys.getD i Str.empty) i).length=i:=by
   intro i
   induction i with
   | zero=>intro _;rfl
   | succ i ih =>
     intro hi
     rw [qgT,if_neg,ih (by omega)]
     intro z
     obtain ⟨w,hw,e⟩:=List.any_eq_true.mp z
     obtain ⟨j,hj,rfl⟩:=qg7 _ i w hw
     have e:ys.getD j Str.empty=ys.getD i Str.empty:=by simpa using e
     rw [List.getD_eq_getElem?_getD,List.getD_eq_getElem?_getD,List.getElem?_eq_getElem (by omega),List.getElem?_eq_getElem (by omega)] at e
     have:=(List.getElem_inj h).mp (show ys[j]=ys[i] from e)
     omega
 exact all ys.length (Nat.le_refl _)
theorem qnh {z:Str} (h:Tx.Wd z):z.cps.all (· < 128)=true:=by
 rw [←Array.all_toList,List.all_eq_true]
 intro c hc
 have:=h.2.2 c hc
 exact decide_eq_true (by omega)
theorem qsD {x:Nat} (h:97≤x):(!decide ((⟨#[x]⟩:Str).cps.toList<("a" : Str).cps.toList))=true:=by
 have e:("a" : Str).cps.toList=[97]:=by decide +kernel
 rw [e]
 show (!decide ([x] < [97]))=true
 rw [StrLaws.lt_cons_cons,StrLaws.lt_nil_nil,decide_eq_false (by omega)]
 simp
theorem qsw {x:Nat} (h:x≤122):(!decide (("z" : Str).cps.toList<(⟨#[x]⟩:Str).cps.toList))=true:=by
 have e:("z" : Str).cps.toList=[122]:=by decide +kernel
 rw [e]
 show (!decide ([122] < [x]))=true
 rw [StrLaws.lt_cons_cons,StrLaws.lt_nil_nil,decide_eq_false (by omega)]
 simp
def tx (c:Nat) (ys:List Str):Str:=⟨((ys.map fun y=>c::Tx.sg y).flatten).toArray⟩
theorem qnE {m a:Nat} (hm:m≤8) (ha:a<2^m):Fam.nms m a=Fam.nms 8 a:=by
 obtain ⟨d,e⟩:∃d,8=m+d:=⟨8-m,by omega⟩
 rw [show Fam.nms 8 a=Fam.nms (m+d) a from by rw [←e]]
 unfold Fam.nms
 rw [List.range_add,List.filter_append]
 have:((List.range d).map (m + ·)).filter (fun k=>a.testBit k)=[]:=by
   rw [List.filter_eq_nil_iff]
   intro k hk
   obtain ⟨j,_,rfl⟩:=List.mem_map.mp hk
   rw [Nat.testBit_lt_two_pow (Nat.lt_of_lt_of_le ha (Nat.pow_le_pow_right (by decide) (Nat.le_add_right m j)))]
   simp
 rw [this,List.append_nil]
end L2
namespace L2
open PySem PySem.Spec PyProof.Rows
abbrev abc:Str := "abcdefghijklmnopqrstuvwxyz"
theorem qlc:∀i,i<26→abc.cps[i]?=some (97+i):=by decide +kernel
theorem qn4:abc.length=26:=by decide +kernel
def Ls (z:Str):Prop:=∀c∈Tx.sg z,97≤c∧c≤122
theorem qeD {α:Type} (L:List α) (g:α→Str):L.map (fun k=>V.str (g k))=sV (L.map g):=by
 show _=List.map V.str (List.map _ _)
 rw [List.map_map]
 rfl
theorem qjv:∀ys:List Str,Tx.sg (Str.join ⟨#[]⟩ ys)=(ys.map Tx.sg).flatten
 | []=>rfl
 | [x]=>by simp [Str.join]
 | x::y::r=>by
   show Tx.sg (x++⟨#[]⟩++Str.join ⟨#[]⟩ (y::r))=_
   rw [Tx.sg_app,Tx.sg_app,qjv (y::r),List.map_cons,List.flatten_cons]
   simp [Tx.sg]
theorem qd7 (ys:List Str):Tx.sg (Txt.join ("" : Str) ys)=(ys.map Tx.sg).flatten:=by
 rw [Tx.lit_empty,show Txt.join ⟨#[]⟩ ys=Str.join ⟨#[]⟩ ys from StrLaws.glued_eq_join _ _,qjv]
theorem qnZ {ys:List Str} (h:∀y∈ys,∃c,y=⟨#[c]⟩∧97≤c∧c≤122):(Txt.join ("" : Str) ys).length=ys.length∧Ls (Txt.join ("" : Str) ys):=by
 constructor
 · rw [←Tx.len_sg,qd7]
   induction ys with
   | nil=>rfl
   | cons y ys ih =>
     obtain ⟨c,rfl,_⟩:=h y List.mem_cons_self
     rw [List.map_cons,List.flatten_cons,List.length_append,ih fun z hz=>h z (List.mem_cons_of_mem _ hz),List.length_cons]
     show 1+ys.length=ys.length+1
     omega
 · intro c hc
   rw [qd7] at hc
   obtain ⟨l,hl,hc⟩:=List.mem_flatten.mp hc
   obtain ⟨y,hy,rfl⟩:=List.mem_map.mp hl
   obtain ⟨d,rfl,h1,h2⟩:=h y hy
   rw [show c=d from by simpa [Tx.sg] using hc]
   exact ⟨h1,h2⟩
theorem qlo {z:Str} {lo hi:Option Int}:∀c∈Tx.sg (Txt.slice z lo hi),c∈Tx.sg z:=by
 intro c hc
 unfold Txt.slice at hc
 split at hc
 · exact hc
 · have hc:c∈(Builtin.Str.strSliceIndices lo hi 1 z.length).filterMap (z.cps[·]?):=by simpa [Tx.sg] using hc
   obtain ⟨i,_,e⟩:=List.mem_filterMap.mp hc
   have:(Tx.sg z)[i]?=some c:=by simpa [Tx.sg] using e
   exact List.mem_of_getElem? this
theorem qja {z:Str} (h:Ls z) {lo hi:Option Int}:Ls (Txt.slice z lo hi):=fun c hc=>h c (qlo c hc)
theorem qq4 {z:Str} {j:Nat} (h:j≤z.length):(Txt.slice z none (some (j:Int))).length=j:=by
 have:=beq_iff_eq.mp (slice_closes_to (x:=z) (j:=(j:Int)) ⟨by omega,by rw [show z.cps.toList.length=z.length from Tx.len_sg z];omega⟩)
 rw [this,←Tx.len_sg]
 show ((z.cps.toList.drop _).take _).length=j
 rw [List.length_take,List.length_drop,show z.cps.toList.length=z.length from Tx.len_sg z]
 simp<;>omega
theorem qnc {z:Str} {i:Nat} (h:i≤z.length):(Txt.slice z (some (i:Int)) none).length=z.length-i:=by
 rw [slice_from_eq (b:=z.length) (by omega) (by omega) rfl,←Tx.len_sg]
 show ((z.cps.toList.drop _).take _).length=_
 rw [List.length_take,List.length_drop,show z.cps.toList.length=z.length from Tx.len_sg z]
 simp<;>omega
structure Gd (L:List Str):Prop where
 few:L.length≤8
 wd:∀w∈L,Tx.Wd w
 hd:∃w,L[0]?=some w∧w.length≠4
end L2
namespace Fly
open PySem
structure qsI (fs ch:List Addr) (h h':Heap):Prop where
 keep:∀b o,h.get? b=some o→b∉fs→b∉ch→h'.get? b=some o
 slot:∀b o,h.get? b=some o→b∈fs→b∉ch→∃sl,h'.get? b=some { o with slots:=sl }
def At (h:Heap) (e T:Addr) (cls fl:Value):Prop :=
 T≠e∧∃oe vs oT ts,h.get? e=some oe∧oe.cls=cls∧oe.data = .fields vs∧vs[1]?=some (.ref T)∧h.get? T=some oT∧oT.data = .fields ts∧ts[3]?=some fl
section
variable {M:Model} {A:Around} {E:Value→Shared→Prop} {s:Shared} {base:Heap} {env:Env} {outer:List Env} {L e:Addr}
end
end Fly
namespace Fly
open PySem
abbrev Lk {α:Type} (h:Heap) (t:Sem α) (r:α):Prop:=∀{M:Model} {A:Around} {E:Value→Shared→Prop} {g:Array GenState} {d:Drawn} {tk:Nat} {os:OsState} {Q:α→Shared→Prop},Q r ⟨h,g,d,tk,os⟩→wpAny M A t Q E ⟨h,g,d,tk,os⟩
structure Cl (h:Heap) (C:Addr):Prop where
 ga:Lk h (typeLookup (.ref C) "__getattribute__") (some (.builtin "BaseException.__getattribute__"))
 gt:Lk h (typeLookup (.ref C) "__getattr__") none
 cl:Lk h (typeLookup (.ref C) "__class__") (some (.builtin "object.__class__"))
 be:Lk h (isSubtype (.ref C) (.type "BaseException")) true
 ob:Lk h (isSubtype (.ref C) (.type "object")) true
section
variable {prog:Program} {w:World} {A:Around} {E:Value→Shared→Prop} {h:Heap} {g:Array GenState} {d:Drawn} {t:Nat} {os:OsState} {a C:Addr} {o:Obj}
end
end Fly
namespace L2
open PySem PySem.Spec PyProof.Rows
section
variable {P:Program} {w:World} {H H':Hp} {h h1 h2:Heap} {fs fs' ch:List Addr}
end
def CX1 (P:Program) (w:World):CXT:=fun outer H s E x s'=>∃(e T C:Addr) (H':Hp),x = .ref e∧s'.os=s.os∧AllBare s'.gens∧Un (frs outer) [] H H' s.heap s'.heap∧HOk P w H' s'.heap ∧
 s.heap.get? e=none∧s.heap.get? T=none∧H' e=none∧H' T=none∧Fly.At s'.heap e T (.ref C) .none∧E (.ref C) none H'
section
variable {P:Program} {w:World} {K:PySem.W.Frag} {mg:Str→Option Value} {base:Heap} {N:List Str} {qual:Str} {scope:Scope} {f:Addr} {cd:Value} {A:Around} {outer:List Env} {s0:Shared} {H0:Hp} {E:XK}
 {pins:List (Addr×Obj)} {σ:St} {H:Hp} {s:Shared}
end
section
variable {X:Cx}
variable {pins ps:List (Addr×Obj)} {σ:St} {H:Hp} {s:Shared} {e:Addr}
end
structure qsE (K:PySem.W.Frag) (C:Addr):Prop where
 cls:∃bmB newId,PySem.W.excIn K C bmB newId=true
 ga:PySem.W.findIn K (.ref C) "__getattribute__" = some (some (.builtin "BaseException.__getattribute__"))
 gt:PySem.W.findIn K (.ref C) "__getattr__" = some none
 cl:PySem.W.findIn K (.ref C) "__class__" = some (some (.builtin "object.__class__"))
 be:PySem.W.subIn K (.ref C) (.type "BaseException")=some true
 ob:PySem.W.subIn K (.ref C) (.type "object")=some true
structure qsG (P:Program) (w:World) (K:PySem.W.Frag) (mg:Str→Option Value) (base:Heap) (x:Str) (k:Nat) (ps:List Str) (sp:Sp) (f:Addr) (fd:FuncData):Prop where
 ok:qaZ P w K mg base (CX1 P w) k f fd ps sp
 mg:mg x=some (.ref f)
 kp:PySem.W.keepIn K (.ref f)=true
 bd:qdP K fd ps []
section
variable {K:PySem.W.Frag} {C D:Addr} {b:Bool} {T:String} {cd:ClassData}
end
section
variable {D:qgd} {σ:St} {H:Hp} {u:TS}
end
end L2
namespace Fly
open PySem
section
variable {M:Model} {A:Around} {E:Value→Shared→Prop} {s:Shared} {base:Heap} {env:Env} {outer:List Env} {L e:Addr}
end
end Fly
namespace L2
open PySem PySem.Spec PyProof.Rows
section
variable {X:Cx} {pins:List (Addr×Obj)} {σ:St} {H H':Hp} {s s':Shared}
structure Nw (X:Cx) (pins:List (Addr×Obj)) (H:Hp) (b:Addr):Prop where
 old:X.s₀.heap.get? b=none∨b∈X.ex
 loc:b≠X.env.locals
 cel:∀x c,X.env.cells.lookup x=some c→c≠b
 pin:∀p∈X.pn++pins,p.1≠b
 frm:b∉frs X.stack
 non:H b=none
end
section
variable {X:Cx}
end
end L2
namespace L2
open PySem PySem.Spec PyProof.Rows
section
variable {prog:Program} {w:World} {A:Around} {R:Result→Shared→Prop} {s:Shared}
end
section
variable {X:Cx} {tg iter elt:Expr} {ifs:List Expr} {scope:Scope} {pos:Pos} {N:List Str} {nt:Nat} {caps:List Nat} {wi:TI} {g:TG} {tt:TT} {te:TE} {cl:List (Str×Addr)}
end
end L2
namespace Tx
open PySem
section
variable {ws:List Str} {a b:Nat}
theorem qnL {c:Nat}:∀{xs ys:List (List Nat)},xs≠[]→ys≠[]→jn c xs++c::jn c ys=jn c (xs++ys)
 | [],_,h,_=>absurd rfl h
 | [x],ys,_,h=>by
   show x++c::jn c ys=jn c (x::ys)
   rw [jn_cons h]
 | x::y::r,ys,_,h=>by
   show (x++c::jn c (y::r))++c::jn c ys=jn c (x::((y::r)++ys))
   rw [jn_cons (x:=x) (r:=y::r++ys) (by simp),List.append_assoc,List.cons_append,qnL (xs:=y::r) (by simp) h]
theorem join_app {c:Nat} {xs ys:List Str} (h1:xs≠[]) (h2:ys≠[]):Txt.join ⟨#[c]⟩ xs++⟨#[c]⟩++Txt.join ⟨#[c]⟩ ys=Txt.join ⟨#[c]⟩ (xs++ys):=by
 refine ext ?_
 rw [sg_app,sg_app,txt_join,txt_join,txt_join,List.map_append,←qnL (by simpa using h1) (by simpa using h2),List.append_assoc]
 rfl
theorem join_one {c:Nat} (w:Str):Txt.join ⟨#[c]⟩ [w]=w:=rfl
end
end Tx
namespace L2
open PySem PySem.Spec PyProof.Rows
section
variable {X:Cx} {K:PySem.W.Frag}
end
end L2
namespace L2
open PySem PySem.Spec PyProof.Rows
section
variable {X:Cx} {e a b o:Expr} {es:List Expr} {te ta tb to:TE} {t:TA} {pos apos cpos:Pos}
end
def As (z:Str):Prop:=∀c∈Tx.sg z,c<128
section
variable {X:Cx}
end
theorem qnH {c d:Nat}:∀{xs:List (List Nat)} {x:List Nat},x∈xs→d∈x→d∈Tx.jn c xs
 | [y],x,hx,hd=>by rw [List.mem_singleton.mp hx] at hd;exact hd
 | y::y'::r,x,hx,hd=>by
   show d∈y++c::Tx.jn c (y'::r)
   rcases List.mem_cons.mp hx with rfl | hx
   · exact List.mem_append_left _ hd
   · exact List.mem_append_right _ (List.mem_cons_of_mem _ (qnH hx hd))
theorem qoY {z:Str} (h:As z) (c:Nat):∀p∈Txt.split z ⟨#[c]⟩,As p:=fun p hp d hd=>by
 have e2:=congrArg Tx.sg (StrLaws.join_split z ⟨#[c]⟩)
 rw [Tx.sg_join] at e2
 exact h d (e2▸qnH (List.mem_map.mpr ⟨p,hp,rfl⟩) hd)
theorem qoU {c:Nat} (hc:c<128) {ys:List Str} (h:∀y∈ys,As y):As (Txt.join ⟨#[c]⟩ ys):=fun d hd=>by
 rw [Tx.txt_join] at hd
 rcases Tx.jn_mem hd with e | ⟨x,hx,hd⟩
 · omega
 · obtain ⟨y,hy,rfl⟩:=List.mem_map.mp hx
   exact h y hy d hd
end L2
namespace L2
open PySem PySem.Spec PyProof.Rows
def wdB (z:Str):Bool:=decide (1≤z.length)&&decide (z.length≤8)&&(Tx.sg z).all fun c=>decide (97≤c)&&decide (c≤122)
def rN (z:Str):Option (List Str) :=
 if Txt.split z " " = [("" : Str)] then some [] else
 if ((Txt.split z " ").all fun w=>wdB w&&!decide (w=("none" : Str)))=true∧(Txt.split z " ").length≤8∧cnt (Txt.split z " ")=(Txt.split z " ").length then some (Txt.split z " ") else none
end L2
namespace L2
open PySem PySem.Spec PyProof.Rows
section
variable {K:PySem.W.Frag} {n k:Nat} {H0 H H1:Hp} {pl:Addr} {ys:List V} {Q:VK}
end
end L2
namespace L2
open PySem PySem.Spec PyProof.Rows
theorem qq2 {c:Nat}:∀xs:List (List Nat),(Tx.jn c xs.reverse).length=(Tx.jn c xs).length:=by
 have tot:∀xs:List (List Nat),(Tx.jn c xs).length+(if xs=[] then 1 else 0)+1=(xs.map fun x=>x.length+1).sum+(if xs=[] then 2 else 0):=by
   intro xs
   induction xs with
   | nil=>rfl
   | cons x r ih =>
     cases r with
     | nil=>simp [Tx.jn]
     | cons y r =>
       rw [Tx.jn_cons (by simp),List.length_append,List.length_cons]
       rw [if_neg (by simp),if_neg (by simp)] at ih ⊢
       rw [List.map_cons,List.sum_cons]
       omega
 intro xs
 have h1:=tot xs
 have h2:=tot xs.reverse
 have e:(xs.reverse.map fun x=>x.length+1).sum=(xs.map fun x=>x.length+1).sum:=by
   rw [List.map_reverse,List.sum_reverse]
 rw [e] at h2
 by_cases h0:xs=[]
 · rw [h0];rfl
 · rw [if_neg h0,if_neg h0] at h1
   rw [if_neg (by simpa using h0),if_neg (by simpa using h0)] at h2
   omega
theorem turned {z:Str} (h:As z) {c:Nat} (hc:c<128):As (Txt.join ⟨#[c]⟩ (Txt.split z ⟨#[c]⟩).reverse)∧(Txt.join ⟨#[c]⟩ (Txt.split z ⟨#[c]⟩).reverse).length=z.length:=by
 refine ⟨qoU hc fun y hy=>qoY h c y (List.mem_reverse.mp hy),?_⟩
 have e2:=congrArg Tx.sg (StrLaws.join_split z ⟨#[c]⟩)
 rw [Tx.sg_join] at e2
 rw [←Tx.len_sg,Tx.txt_join,List.map_reverse,qq2,e2,Tx.len_sg]
theorem qm4 {c:Nat}:∀{L:List Nat},L.Nodup→(∀x∈L,x=c)→c∈L→L=[c]
 | [],_,_,h=>by cases h
 | x::r,nd,h,_=>by
   have e:=h x List.mem_cons_self
   subst e
   cases r with
   | nil=>rfl
   | cons y r =>
     have:=h y (List.mem_cons_of_mem _ List.mem_cons_self)
     subst this
     exact absurd List.mem_cons_self (List.nodup_cons.mp nd).1
theorem qcl {ws:List Str} (nd:ws.Nodup) (w:Str):(List.range ws.length).filter (fun k=>decide (ws.getD k Str.empty=w))=if w∈ws then [ws.idxOf w] else []:=by
 have at':∀k,k<ws.length→ws[k]?=some (ws.getD k Str.empty):=fun k hk=>by rw [List.getD_eq_getElem?_getD,List.getElem?_eq_getElem hk];rfl
 by_cases h:w∈ws
 · rw [if_pos h]
   have hl:=List.idxOf_lt_length_of_mem h
   refine qm4 (List.nodup_range.sublist List.filter_sublist) (fun x hx=>?_) ?_
   · obtain ⟨h1,h2⟩:=List.mem_filter.mp hx
     have h1:=List.mem_range.mp h1
     have h2:=of_decide_eq_true h2
     have e1:=at' x h1
     have e2:ws[ws.idxOf w]?=some w:=by rw [List.getElem?_eq_getElem hl,List.getElem_idxOf]
     rw [h2] at e1
     obtain ⟨q1,q2⟩:=List.getElem?_eq_some_iff.mp e1
     obtain ⟨q3,q4⟩:=List.getElem?_eq_some_iff.mp e2
     exact (List.getElem_inj nd).mp (q2.trans q4.symm)
   · refine List.mem_filter.mpr ⟨List.mem_range.mpr hl,decide_eq_true ?_⟩
     have e2:ws[ws.idxOf w]?=some w:=by rw [List.getElem?_eq_getElem hl,List.getElem_idxOf]
     have:=at' _ hl
     rw [e2] at this
     exact (Option.some.inj this).symm
 · rw [if_neg h,List.filter_eq_nil_iff]
   intro k hk z
   have z:=of_decide_eq_true z
   exact h (z▸List.mem_of_getElem? (at' k (List.mem_range.mp hk)))
theorem qgM (L:List Nat) (k:Nat):Fam.ofN (L++[k])=Fam.ofN L|||2^k:=by
 unfold Fam.ofN
 rw [List.foldl_append]
 rfl
end L2
namespace Fam
end Fam
namespace L2
open PySem PySem.Spec PyProof.Rows
section
variable {K:PySem.W.Frag} {g:TG} {tb:TS} {D:qgd} {σ:L2.St} {H:Hp} {a:Addr} {ta:TA}
end
inductive Pap (H:Hp) (fs gs:List Nat) (m:Nat):Nat→Nat→Nat→Addr→Prop
 | one {n ti to:Nat} {t:Addr} {j b:Nat} (h:H t=some (.tup [.str "one",.int (j:Nat)])) (h1:fs[j]?=some b) (h2:Fam.sub b ti):Pap H fs gs m (n+1) ti to t
 | other {n ti to:Nat} {t:Addr} {j b:Nat} (h:H t=some (.tup [.str "other",.int (j:Nat)])) (h1:gs[j]?=some b) (h2:Fam.sub b to):Pap H fs gs m (n+1) ti to t
 | name {n ti to:Nat} {t u v:Addr} {k:Nat} (h:H t=some (.tup [.str "name",.int (k:Nat),.ref u,.ref v])) (hk:k<m) (h1:ti.testBit k=false) (h2:to.testBit k=false) (p1:Pap H fs gs m n (ti|||2^k) to u) (p2:Pap H fs gs m n ti (to|||2^k) v):Pap H fs gs m (n+1) ti to t
end L2
namespace L2
open PySem PySem.Spec PyProof.Rows
section
variable {X:Cx} {pins:List (Addr×Obj)} {σ:St} {H:Hp} {s:Shared} {h':Heap} {K:PySem.W.Frag}
theorem Inv.turnedL {t':Nat} {ch:List Addr} (I:Inv X pins σ H s) (k:∀b o,b∉ch→s.heap.get? b=some o→h'.get? b=some o) (f:∀b∈ch,qhp X pins H b):Inv X pins σ H { s with heap:=h',toks:=t' }:=by
 have nit:∀b u,H b=some u→b∉ch:=fun b u q z=>by rw [(f b z).1] at q;cases q
 refine I.step (g':=s.gens) (d':=s.drawn) (ch:=ch) (fun b hb=>⟨(f b hb).2.2.2.1,(f b hb).2.1,(f b hb).2.2.2.2.1,(f b hb).2.2.2.2.2⟩) (fun b o _ _ hc q _=>k b o hc q) (fun b o _ _ hc q _=>⟨o.slots,k b o hc q⟩) (fun _ _ _ _ n=>n)
   (fun b o hc q=>⟨o,k b o hc q⟩) (fun _ _ q=>q) (fun _ _ _ q=>q) (fun b ps q=>⟨#[],by rw [q];simp⟩) (fun m hm=>?_) (fun b u q=>?_) I.bare
 · obtain ⟨o,es,ep,ho,r⟩:=hm
   exact ⟨o,es,ep,k _ o (fun z=>(f _ z).2.1 rfl) ho,r⟩
 · refine (I.hok b u q).stay (fun c v hc z=>k c v ?_ z) (fun _ z=>z) fun _ _ z=>z
   rcases hc with y | y
   · rw [y];exact nit b u q
   · exact nit c _ y
end
section
variable {K:PySem.W.Frag} {g:TG} {tb:TS} {D:qgd} {σ:L2.St} {H:Hp} {a b:Addr} {ta:TA}
end
end L2
namespace L2
open PySem PySem.Spec PyProof.Rows
def KDt (P:Program) (w:World) (K:PySem.W.Frag) (a:Addr) (kvs:List (Key×V)):Prop :=
 (a==sysModules)=false∧∃(o:Obj) (vs:List (Key×Value)),K.lookup a=some o∧KV kvs vs∧∀h:Heap,h.get? a=some o→h.DictOf (qbc P w) a vs
section
variable {X:Cx} {pins:List (Addr×Obj)} {σ:St} {H:Hp} {s:Shared} {a:Addr} {kvs:List (Key×V)} {P:Program} {w:World} {K:PySem.W.Frag}
theorem Inv.kdt (I:Inv X pins σ H s) (h:KDt X.prog X.w X.K a kvs):(a==sysModules)=false∧∃vs,KV kvs vs∧s.heap.DictOf (qbc X.prog X.w) a vs:=by
 obtain ⟨z,o,vs,lk,r,d⟩:=h
 exact ⟨z,vs,r,d _ (I.kIn a o lk)⟩
def qqx (P:Program) (w:World) (K:PySem.W.Frag) (td ty:TE):TE:=fun σ H Q=>td σ H fun x H1=>ty σ H1 fun y H2=>∃(a:Addr) (kvs:List (Key×V)) (k:Key) (v:V),x = .ref a∧y=kV k∧KDt P w K a kvs∧qdr kvs k=some v∧Q v H2
def qpB (P:Program) (w:World) (K:PySem.W.Frag) (ty td:TE):TE:=fun σ H Q=>ty σ H fun y H1=>td σ H1 fun x H2=>∃(a:Addr) (kvs:List (Key×V)) (k:Key),x = .ref a∧y=kV k∧KDt P w K a kvs∧Q (.bl (!(qdr kvs k).isSome)) H2
variable {o i:Expr} {pos:Pos} {td ty:TE}
theorem qiC (hP:X.prog=P) (hw:X.w=w) (hK:X.K=K) (ho:PE X o td) (hi:PE X i ty) (hs:qrF i):PE X (.Subscript o i pos) (qqx P w K td ty):=by
 subst hP hw hK
 intro pins s σ H Q I h
 refine qlz PySem.F.slot_dict_getitem.lookup hs (thn (ho pins s σ H _ I h) fun u s1 ⟨x,H1,I1,rx,q1⟩=>thn (hi pins s1 σ H1 _ I1 q1) fun iv s2 ⟨y,H2,I2,ry,b,kvs,k,v,ex,ey,g,hv,q2⟩=>?_)
 subst ex ey
 obtain rfl:u=Value.ref b:=rx
 obtain ⟨_,vs,rel,dd⟩:=I2.kdt g
 obtain ⟨w',hw,rw'⟩:=qhN.some_of (v:=v) (o:=valueAt vs k) (by rw [←hv];exact rel.val k)
 exact ⟨dd.typeIs,wpAny_getItem_of (qjI ry) dd.mapOf hw ⟨v,H2,I2.tok _,rw',q2⟩⟩
theorem qnW (hP:X.prog=P) (hw:X.w=w) (hK:X.K=K) (hi:PE X i ty) (ho:PE X o td):PC X .NotIn i o (qpB P w K ty td):=by
 subst hP hw hK
 intro pins s σ H Q I h
 refine thn (hi pins s σ H _ I h) fun iv s1 ⟨y,H1,I1,ry,q1⟩=>thn (ho pins s1 σ H1 _ I1 q1) fun u s2 ⟨x,H2,I2,rx,b,kvs,k,ex,ey,g,q2⟩=>?_
 subst ex ey
 obtain rfl:u=Value.ref b:=rx
 obtain ⟨hd,vs,rel,dd⟩:=I2.kdt g
 refine wpAny_notIn_of (qjI ry) hd dd.mapOf ?_
 rw [←(rel.val k).isSome_eq]
 exact ⟨.bl _,H2,I2.tok _,rfl,q2⟩
end
section
variable {X:Cx}
def qpk:V→List V→Hp→VK→Prop:=fun x vs H Q=>∃(z y:Str) (n:Nat),x = .str z∧vs=[.str y,.int (n:Nat)]∧(y.length==0)=false∧z.length≤100000∧n≤1000∧∀l,H l=none→Q (.ref l) (upd H l (.lst (sV (Txt.splitMax z y (n:Int)))))
theorem qqp (z y:Str) (n:Int):(Txt.splitMax z y n).length≤z.length+2:=by
 unfold Txt.splitMax
 split
 · exact Nat.le_add_left _ _
 · split
   · exact Nat.le_add_left _ _
   · have e1:=StrLaws.occ_length_le_len z y 0 z.length (limitOf z n)
     rw [length_partsBetween]
     omega
theorem qlp:MtM X "str.split" qpk:=by
 intro pins s σ H x vs v us Q I rx rv h
 obtain ⟨z,y,n,rfl,rfl,hy,hz,hn,q⟩:=h
 obtain ⟨t,rfl⟩:=rx
 obtain ⟨u,u3,rfl,ru,ru3⟩:=qn9 rv
 obtain ⟨t2,rfl⟩:=ru
 obtain ⟨t3,rfl⟩:=ru3
 have hl:=qqp z y (n:Int)
 have e24:sizeLine=16777216:=sizeLine_eq
 have hk:(decide ((n:Int) < -(2^63:Int))||decide ((n:Int)≥2^63))=false:=by
   rw [decide_eq_false (by omega),decide_eq_false (by omega)]
   rfl
 have fin:∀(l:List (Str×Tok)) (k:Nat),l.map (·.1)=Txt.splitMax z y (n:Int)→EP X pins σ Q (.ref s.heap.objs.size) { s with heap:=s.heap.push { cls := .type "list",data := .seq (strValues l).toArray },toks:=k }:=fun l k e =>
   ⟨.ref s.heap.objs.size,_,I.lnew (ys:=sV (Txt.splitMax z y (n:Int))) (t':=k) (by rw [←e];exact qfZ l) (by rw [List.length_map];omega),rfl,q _ I.fresh⟩
 cases h1:(decide (z.length<y.length)||decide (Builtin.Str.strKind z<Builtin.Str.strKind y)) with
 | true=>exact call_meets F.slot_str_split (typeIs_str _ _ _) F.entry_str_split (F.args_str_split_3 _ _ _) (meets_str_split_max_cannot_occur z y n t t2 t3 hk h1) (fin [(z,t)] s.toks (if_pos h1).symm)
 | false =>
   cases h2:(Builtin.Str.occurrences z y 0 z.length (limitOf z n)).isEmpty with
   | true=>exact call_meets F.slot_str_split (typeIs_str _ _ _) F.entry_str_split (F.args_str_split_3 _ _ _) (meets_str_split_max_not_found z y n t t2 t3 hk h1 hy h2) (fin [(z,t)] s.toks ((if_neg (ne_true_of_eq_false h1)).trans (if_pos h2)).symm)
   | false =>
     have es:Txt.splitMax z y (n:Int)=Builtin.Str.partsBetween z (Builtin.Str.occurrences z y 0 z.length (limitOf z n)) y.length:=(if_neg (ne_true_of_eq_false h1)).trans (if_neg (ne_true_of_eq_false h2))
     refine call_meets F.slot_str_split (typeIs_str _ _ _) F.entry_str_split (F.args_str_split_3 _ _ _) (meets_str_split_sep_max z y n t t2 t3 hk h1 hy h2 (by omega) (by rw [←es];omega)) ?_
     rw [strsFrom_eq]
     exact fin (numbered s.toks _) _ ((numbered_texts _ _).trans es.symm)
end
end L2
namespace L2
open PySem PySem.Spec PyProof.Rows
structure Drw (P:Program) (w:World) (it src:Addr) (tn:Nat→Heap→Prop) (vs:Array Value):Prop where
 item:∀{A:Around} {E:Value→Shared→Prop} {s:Shared} {k:Nat} {x:Value} {Q:Value→Shared→Prop},tn k s.heap→vs[k]?=some x→(∀g,tn (k+1) g→Heap.SameBut it s.heap g→Q x { s with heap:=g })→wpAny (model P w) A (Builtin.SmallTypes.nextOf (.ref it)) Q E s
 stop:∀{A:Around} {E:Value→Shared→Prop} {s:Shared} {k:Nat} {Q:Value→Shared→Prop},A.handled=none→tn k s.heap→vs[k]?=none→(∀g e,Heap.ExtBut it s.heap g→(∃o,g.get? e=some o∧o.cls = .type "StopIteration")→E (.ref e) { s with heap:=g })→wpAny (model P w) A (Builtin.SmallTypes.nextOf (.ref it)) Q E s
 keep:∀{k:Nat} {h g:Heap},tn k h→(∀b o,(b=it∨b=src)→h.get? b=some o→g.get? b=some o)→tn k g
 rcd:∀{k:Nat} {h:Heap},tn k h→∃o,h.get? it=some o∧∀v,o.data ≠ .cell v
section
variable {P:Program} {w:World} {it src:Addr} {vs:Array Value}
theorem Drw.list (ne:src≠it):Drw P w it src (fun k h=>h.IsListIter it src k∧h.IsList src vs) vs where
 item:=fun ⟨h1,h2⟩ hx q=>wpAny_nextOf_list_item h1 h2 hx fun g a b=>q g ⟨a,h2.extBut b.extBut ne⟩ b
 stop:=fun hh ⟨h1,h2⟩ hx q=>wpAny_nextOf_list_end hh h1 h2 hx q
 keep:=fun ⟨h1,h2⟩ k=>⟨h1.at fun o e=>k it o (.inl rfl) e,h2.at fun o e=>k src o (.inr rfl) e⟩
 rcd:=fun ⟨⟨o,e,_,d⟩,_⟩=>⟨o,e,fun v z=>by rw [d] at z;cases z⟩
theorem Drw.tup (ne:src≠it):Drw P w it src (fun k h=>IsTupIter h it src k∧IsTup h src vs) vs where
 item:=by
   rintro A E s k x Q ⟨h1,h2⟩ hx q
   obtain ⟨oi,gi,ci,di⟩:=id h1
   obtain ⟨ot,gt,ct,nt,dt⟩:=id h2
   unfold Builtin.SmallTypes.nextOf
   refine wpAny_bind (wpAny_callSpecial?_slot (name:=Str.ofString "__next__") h1.typeIs slot_tupleiter_next (wpAny_call_entry slot_tupleiter_next h1.typeIs entry_tupleiter_next ?_ (args_tupleiter_next _)))
   show wpAny _ _ (field (.ref it) 0 >>= _) _ _ s;refine wpAny_bind (wpAny_field gi di (x := .ref src) rfl ?_)
   show wpAny _ _ (if (Value.ref src==Value.none)=true then _ else _) _ _ s;rw [if_neg (show ¬((Value.ref src==Value.none)=true) from Bool.false_ne_true)]
   show wpAny _ _ (field (.ref it) 1 >>= _) _ _ s;refine wpAny_bind (wpAny_field gi di (x := .int k 0) rfl ?_)
   show wpAny _ _ (seqItems? (.ref src) >>= _) _ _ s;refine wpAny_bind (wpAny_seqItems gt dt ?_)
   simp only [Int.toNat_natCast,hx]
   have st:IsTupIter (s.heap.update it (Obj.mapFields (·.setIfInBounds 1 (rawInt (k+1))))) it src (k+1) :=
     ⟨_,Heap.get?_update_self _ gi (Obj.isFreed_of_fields (Obj.data_mapFields di _)),(Obj.cls_mapFields ..).trans ci,by rw [Obj.data_mapFields di];simp [rawInt]⟩
   refine wpAny_bind (wpAny_setField gi di (by simp) (wpAny_pure ⟨x,rfl,wpAny_pure (q _ ⟨st,ot,?_,ct,nt,dt⟩ (Heap.SameBut.update ..))⟩))
   rw [Heap.get?_update_other _ _ (Ne.symm ne)]
   exact gt
 stop:=by
   rintro A E s k Q hh ⟨h1,h2⟩ hx q
   obtain ⟨oi,gi,ci,di⟩:=id h1
   obtain ⟨ot,gt,ct,nt,dt⟩:=id h2
   unfold Builtin.SmallTypes.nextOf
   refine wpAny_bind (wpAny_callSpecial?_slot (name:=Str.ofString "__next__") h1.typeIs slot_tupleiter_next (wpAny_call_entry slot_tupleiter_next h1.typeIs entry_tupleiter_next ?_ (args_tupleiter_next _)))
   show wpAny _ _ (field (.ref it) 0 >>= _) _ _ s;refine wpAny_bind (wpAny_field gi di (x := .ref src) rfl ?_)
   show wpAny _ _ (if (Value.ref src==Value.none)=true then _ else _) _ _ s;rw [if_neg (show ¬((Value.ref src==Value.none)=true) from Bool.false_ne_true)]
   show wpAny _ _ (field (.ref it) 1 >>= _) _ _ s;refine wpAny_bind (wpAny_field gi di (x := .int k 0) rfl ?_)
   show wpAny _ _ (seqItems? (.ref src) >>= _) _ _ s;refine wpAny_bind (wpAny_seqItems gt dt ?_)
   simp only [Int.toNat_natCast,hx]
   refine wpAny_bind (wpAny_rule (wpAny_bind (wpAny_setField gi di (by simp) ?_)));show wpAny _ _ (newExc (.type "StopIteration") [] >>= _) _ _ _
   refine wpAny_bind ?_;simp only [newExc,newTuple];refine wpAny_bind (wpAny_newObj_type ?_ (by size_fits))
   refine wpAny_bind (m:=firstArgMember _ _) (wpAny_of_eq (a:=Value.none) (by first | rfl | (simp only [firstArgMember];rfl)) (wpAny_newObj_type ?_ (by size_fits)))
   simp only [raiseNew];refine wpAny_bind (wpAny_handled ?_);first | rw [show A.in1.handled=none from hh] | rw [hh]
   exact wpAny_bind (wpAny_pure (wpAny_throw (q _ _ (((Heap.SameBut.update ..).extBut.push _).push _) ⟨_,Heap.get?_push_size _ rfl,rfl⟩)))
 keep:=fun ⟨h1,h2⟩ k=>by
   obtain ⟨oi,gi,ri⟩:=h1
   obtain ⟨ot,gt,rt⟩:=h2
   exact ⟨⟨oi,k it oi (.inl rfl) gi,ri⟩,ot,k src ot (.inr rfl) gt,rt⟩
 rcd:=fun ⟨⟨o,e,_,d⟩,_⟩=>⟨o,e,fun v z=>by rw [d] at z;cases z⟩
variable {A:Around} {E:Value→Shared→Prop} {s:Shared} {z TI TO i1 i2 l1 l2:Addr} {t1 t2:Nat→Heap→Prop} {xs ys:Array Value} {k:Nat} {a b:Value}
theorem qoV {x y:Value} {Q:Option Value→Shared→Prop} (D:ZipApart z TI TO i1 i2 l1 l2) (D1:Drw P w i1 l1 t1 xs) (D2:Drw P w i2 l2 t2 ys)
   (hz:IsZip s.heap z TI TO .none) (hI:IsPair s.heap TI (.ref i1) (.ref i2)) (hO:IsPair s.heap TO a b) (c1:t1 k s.heap) (c2:t2 k s.heap) (hx:xs[k]?=some x) (hy:ys[k]?=some y)
   (q:∀g,IsZip g z TI TO (rawInt s.heap.objs.size)→IsPair g TO x y→t1 (k+1) g→t2 (k+1) g→IsPair g s.heap.objs.size x y→(∀c o,c≠z→c≠TO→c≠i1→c≠i2→s.heap.get? c=some o→g.get? c=some o)→Q (some (.ref s.heap.objs.size)) { s with heap:=g }) :
   wpAny (model P w) A (pyNext (.ref z)) Q E s:=by
 have tz:s.TypeIs (.ref z) "zip" := ⟨_,hz,rfl⟩
 unfold pyNext
 refine wpAny_bind (wpAny_attempt (wpAny_callSpecial?_slot (name:=Str.ofString "__next__") tz F.slot_zip_next (wpAny_call_entry F.slot_zip_next tz F.entry_zip_next ?_ (F.args_zip_next_1 _))))
 show wpAny _ _ (field (.ref z) 2 >>= _) _ _ _;refine wpAny_bind (wpAny_field hz rfl (x := .bool false) rfl ?_);show wpAny _ _ (field (.ref z) 3 >>= _) _ _ _
 refine wpAny_bind (wpAny_field hz rfl (x := .ref TI) rfl (wpAny_bind (wpAny_seqItems hI rfl ?_)));show wpAny _ _ (Builtin.SmallTypes.ownedTupleIsFree (.ref z) >>= _) _ _ _
 refine wpAny_bind ?_;unfold Builtin.SmallTypes.ownedTupleIsFree;refine wpAny_bind (wpAny_field hz rfl (x := .none) rfl (wpAny_pure ?_));simp only [if_true]
 refine wpAny_bind (wpAny_rule (wpAny_bind (wpAny_field hz rfl (x := .ref TO) rfl ?_)));refine wpAny_bind (wpAny_setField_rec hz (by simp) fun g1 e1 m1=>?_)
 replace e1:IsZip g1 z TI TO .ellipsis:=e1;refine wpAny_bind ?_;simp only [List.zipIdx_cons,List.zipIdx_nil,List.forIn_cons,List.forIn_nil]
 have c1':t1 k g1:=D1.keep c1 fun b o hb e=>m1.extBut _ _ (by rcases hb with rfl | rfl;exact D.i1z;exact D.l1z) e
 have c2':t2 k g1:=D2.keep c2 fun b o hb e=>m1.extBut _ _ (by rcases hb with rfl | rfl;exact D.i2z;exact D.l2z) e
 refine wpAny_bind (wpAny_bind (wpAny_onRaise ?_));show wpAny _ _ (Builtin.SmallTypes.nextOf (.ref i1) >>= _) _ _ _
 refine wpAny_bind (D1.item (s:={ s with heap:=g1 }) c1' hx fun g2 d1 m2=>wpAny_pure ?_)
 have o2:IsPair g2 TO a b:=m2.extBut _ _ D.TOi1 (m1.extBut _ _ D.TOz hO)
 refine wpAny_bind (wpAny_seqItems o2 rfl (wpAny_bind (wpAny_updateSeq_pair o2 fun g3 o3 m3=>wpAny_bind (wpAny_letGo (wpAny_pure ?_)))));replace o3:IsPair g3 TO x b:=o3
 have c2':t2 k g3:=D2.keep c2' fun b o hb e=>m3.extBut _ _ (by rcases hb with rfl | rfl;exact D.TOi2.symm;exact D.l2TO) (m2.extBut _ _ (by rcases hb with rfl | rfl;exact D.i12.symm;exact D.l2i1) e)
 refine wpAny_bind (wpAny_bind (wpAny_onRaise ?_));show wpAny _ _ (Builtin.SmallTypes.nextOf (.ref i2) >>= _) _ _ _
 refine wpAny_bind (D2.item (s:={ s with heap:=g3 }) c2' hy fun g4 d2 m4=>wpAny_pure ?_)
 have o4:IsPair g4 TO x b:=m4.extBut _ _ D.TOi2 o3
 refine wpAny_bind (wpAny_seqItems o4 rfl (wpAny_bind (wpAny_updateSeq_pair o4 fun g5 o5 m5=>wpAny_bind (wpAny_letGo (wpAny_pure (wpAny_pure ?_))))));replace o5:IsPair g5 TO x y:=o5
 refine wpAny_bind (wpAny_seqItems o5 rfl (wpAny_bind (wpAny_newTuple ?_)))
 have sz:g5.objs.size=s.heap.objs.size:=by rw [m5.1,m4.1,m3.1,m2.1,m1.1]
 have z5:IsZip g5 z TI TO .ellipsis:=m5.extBut _ _ D.TOz.symm (m4.extBut _ _ D.i2z.symm (m3.extBut _ _ D.TOz.symm (m2.extBut _ _ D.i1z.symm e1)))
 have old:∀c o,c≠z→c≠TO→c≠i1→c≠i2→s.heap.get? c=some o→g5.get? c=some o:=fun c o n1 n2 n3 n4 e=>m5.extBut _ _ n2 (m4.extBut _ _ n4 (m3.extBut _ _ n2 (m2.extBut _ _ n3 (m1.extBut _ _ n1 e))))
 have d1':t1 (k+1) g5:=D1.keep d1 fun b o hb e=>m5.extBut _ _ (by rcases hb with rfl | rfl;exact D.TOi1.symm;exact D.l1TO) (m4.extBut _ _ (by rcases hb with rfl | rfl;exact D.i12;exact D.l1i2) (m3.extBut _ _ (by rcases hb with rfl | rfl;exact D.TOi1.symm;exact D.l1TO) e))
 have d2':t2 (k+1) g5:=D2.keep d2 fun b o hb e=>m5.extBut _ _ (by rcases hb with rfl | rfl;exact D.TOi2.symm;exact D.l2TO) e
 have zl:z<g5.objs.size:=Heap.lt_size z5
 show wpAny _ _ (Builtin.SmallTypes.ownedTupleHandOut (.ref z) (.ref g5.objs.size) >>= _) _ _ _;refine wpAny_bind ?_;unfold Builtin.SmallTypes.ownedTupleHandOut
 have z6:IsZip (g5.push { cls := .type "tuple",data := .seq #[x,y] }) z TI TO .ellipsis:=Heap.get?_push_of_some _ z5
 refine wpAny_bind (wpAny_setField_rec z6 (by simp) fun g7 z7 m7=>?_);replace z7:IsZip g7 z TI TO (rawInt g5.objs.size):=z7
 refine wpAny_setField_rec z7 (by simp) fun g8 z8 m8=>?_;replace z8:IsZip g8 z TI TO (rawInt g5.objs.size):=z8
 have up:∀c o,c≠z→g5.get? c=some o→g8.get? c=some o:=fun c o n e=>m8.extBut _ _ n (m7.extBut _ _ n (Heap.get?_push_of_some _ e))
 have p8:IsPair g8 g5.objs.size x y:=m8.extBut _ _ (Nat.ne_of_gt zl) (m7.extBut _ _ (Nat.ne_of_gt zl) (Heap.get?_push_size _ rfl))
 rw [sz] at z8 p8
 refine wpAny_pure ⟨_,rfl,wpAny_pure ?_⟩
 show Q (some (.ref g5.objs.size)) _;rw [sz]
 exact q g8 z8 (up _ _ D.TOz o5) (D1.keep d1' fun b o hb e=>up b o (by rcases hb with rfl | rfl;exact D.i1z;exact D.l1z) e) (D2.keep d2' fun b o hb e=>up b o (by rcases hb with rfl | rfl;exact D.i2z;exact D.l2z) e) p8 fun c o n1 n2 n3 n4 e=>up c o n1 (old c o n1 n2 n3 n4 e)
theorem qnU {Q:Option Value→Shared→Prop} (hh:A.handled=none) (D:ZipApart z TI TO i1 i2 l1 l2) (D1:Drw P w i1 l1 t1 xs)
   (hz:IsZip s.heap z TI TO .none) (hI:IsPair s.heap TI (.ref i1) (.ref i2)) (hO:IsPair s.heap TO a b) (c1:t1 k s.heap) (hx:xs[k]?=none)
   (q:∀g,(∀c o,c≠z→c≠TO→c≠i1→c≠i2→s.heap.get? c=some o→g.get? c=some o)→Q none { s with heap:=g }):wpAny (model P w) A (pyNext (.ref z)) Q E s:=by
 have tz:s.TypeIs (.ref z) "zip" := ⟨_,hz,rfl⟩
 unfold pyNext
 refine wpAny_bind (wpAny_attempt (wpAny_callSpecial?_slot (name:=Str.ofString "__next__") tz F.slot_zip_next (wpAny_call_entry F.slot_zip_next tz F.entry_zip_next ?_ (F.args_zip_next_1 _))))
 show wpAny _ _ (field (.ref z) 2 >>= _) _ _ _;refine wpAny_bind (wpAny_field hz rfl (x := .bool false) rfl ?_);show wpAny _ _ (field (.ref z) 3 >>= _) _ _ _
 refine wpAny_bind (wpAny_field hz rfl (x := .ref TI) rfl (wpAny_bind (wpAny_seqItems hI rfl ?_)));show wpAny _ _ (Builtin.SmallTypes.ownedTupleIsFree (.ref z) >>= _) _ _ _
 refine wpAny_bind ?_;unfold Builtin.SmallTypes.ownedTupleIsFree;refine wpAny_bind (wpAny_field hz rfl (x := .none) rfl (wpAny_pure ?_));simp only [if_true]
 refine wpAny_bind (wpAny_rule (wpAny_bind (wpAny_field hz rfl (x := .ref TO) rfl ?_)));refine wpAny_bind (wpAny_setField_rec hz (by simp) fun g1 e1 m1=>?_)
 replace e1:IsZip g1 z TI TO .ellipsis:=e1;refine wpAny_bind ?_;simp only [List.zipIdx_cons,List.zipIdx_nil,List.forIn_cons,List.forIn_nil]
 have c1':t1 k g1:=D1.keep c1 fun b o hb e=>m1.extBut _ _ (by rcases hb with rfl | rfl;exact D.i1z;exact D.l1z) e
 refine wpAny_bind (wpAny_bind (wpAny_onRaise ?_));show wpAny _ _ (Builtin.SmallTypes.nextOf (.ref i1) >>= _) _ _ _
 refine wpAny_bind (D1.stop (s:={ s with heap:=g1 }) hh c1' hx fun g2 e m2 ⟨oe,ge,ce⟩=>?_)
 have z2:IsZip g2 z TI TO .ellipsis:=m2 _ _ D.i1z.symm e1
 have nz:e≠z:=fun x=>by subst x;rw [z2] at ge;cases ge;simp at ce
 refine wpAny_setField_rec z2 (by simp) fun g3 _ m3=>?_
 refine wpAny_bind (wpAny_isInstance (T := "StopIteration") (b:=true) ⟨oe,m3.extBut _ _ nz ge,ce⟩ isSubtype_stop (wpAny_pure (q g3 fun c o n1 _ n3 _ x=>m3.extBut _ _ n1 (m2 _ _ n3 (m1.extBut _ _ n1 x)))))
end
end L2
namespace Tx
open PySem
def qgb (c:Nat):List Nat→Nat→List Nat
 | [],_=>[]
 | d::r,k=>if d=c then k::qgb c r (k+1) else qgb c r (k+1)
theorem qgZ (c:Nat):∀(a b:List Nat) (k:Nat),qgb c (a++b) k=qgb c a k++qgb c b (k+a.length)
 | [],b,k=>rfl
 | d::r,b,k=>by
   show (if d=c then k::qgb c (r++b) (k+1) else qgb c (r++b) (k+1))=(if d=c then k::qgb c r (k+1) else qgb c r (k+1))++_
   rw [qgZ c r b (k+1),List.length_cons,show k+1+r.length=k+(r.length+1) by omega]
   split<;>rfl
theorem qiu (c:Nat):∀(a:List Nat) (k:Nat),c∉a→qgb c a k=[]
 | [],_,_=>rfl
 | d::r,k,h=>by
   show (if d=c then k::qgb c r (k+1) else qgb c r (k+1))=[]
   rw [if_neg (fun e:d=c=>h (by rw [e];exact List.mem_cons_self)),qiu c r (k+1) fun z=>h (List.mem_cons_of_mem _ z)]
theorem qf1 (c:Nat):∀(L:List Nat) (k:Nat),(List.range' k (L.length+1)).filter (fun i=>decide (L[i-k]?=some c))=qgb c L k
 | [],k=>by simp [List.range',qgb]
 | d::r,k=>by
   rw [List.length_cons,List.range'_succ,List.filter_cons]
   have ih:=qf1 c r (k+1)
   have e:(List.range' (k+1) (r.length+1)).filter (fun i=>decide ((d::r)[i-k]?=some c))=(List.range' (k+1) (r.length+1)).filter (fun i=>decide (r[i-(k+1)]?=some c)):=by
     refine List.filter_congr fun i hi=>?_
     have:=(List.mem_range'_1.mp hi).1
     rw [show i-k=(i-(k+1))+1 by omega,List.getElem?_cons_succ]
   rw [e,ih]
   show (if decide ((d::r)[k-k]?=some c)=true then _ else _)=if d=c then _ else _
   rw [Nat.sub_self,List.getElem?_cons_zero]
   by_cases h:d=c
   · rw [if_pos (by simpa using h),if_pos h]
   · rw [if_neg (by simpa using h),if_neg h]
theorem qhc (x:Str) (c k:Nat):∀(n a:Nat) (st:Array Nat×Nat),st.2≤a →
   (forIn (List.range' a n) st (StrLaws.occBody x ⟨#[c]⟩ x.length k)).run.fst.toList=st.1.toList++((List.range' a n).filter (fun i=>decide ((sg x)[i]?=some c))).take (k-st.1.size)
 | 0,a,st,_=>by simp [List.range']
 | n+1,a,st,h=>by
   rw [List.range'_succ,List.forIn_cons,List.filter_cons]
   unfold StrLaws.occBody
   have one:=StrLaws.subAt_one x c a
   by_cases hc:(sg x)[a]?=some c
   · have hA:=one.mpr hc
     rw [show decide ((sg x)[a]?=some c)=true from decide_eq_true hc]
     by_cases hk:st.1.size<k
     · rw [if_pos ⟨⟨⟨hk,h⟩,hA.1⟩,hA.2⟩]
       have ih:=qhc x c k n (a+1) (st.1.push a,a+1) (Nat.le_refl _)
       refine Eq.trans ih ?_
       rw [Array.toList_push,Array.size_push,List.append_assoc]
       congr 1
       obtain ⟨m,e⟩:∃m,k-st.1.size=m+1:=⟨k-st.1.size-1,by omega⟩
       rw [e,show k-(st.1.size+1)=m by omega]
       rfl
     · rw [if_neg fun z=>hk z.1.1.1]
       have ih:=qhc x c k n (a+1) (st.1,st.2) (Nat.le_succ_of_le h)
       refine Eq.trans ih ?_
       rw [show k-st.1.size=0 by omega]
       simp
   · rw [if_neg (fun z=>hc (one.mp ⟨z.1.2,z.2⟩)),show decide ((sg x)[a]?=some c)=false from decide_eq_false hc]
     exact qhc x c k n (a+1) (st.1,st.2) (Nat.le_succ_of_le h)
theorem qoQ (x:Str) (c k:Nat):Builtin.Str.occurrences x ⟨#[c]⟩ 0 x.length k=(qgb c (sg x) 0).take k:=by
 rw [StrLaws.occ_eq]
 have h:=qhc x c k (x.length+1-0) 0 (#[],0) (Nat.le_refl _)
 refine Eq.trans h ?_
 have e:=qf1 c (sg x) 0
 rw [len_sg] at e
 simp only [Nat.sub_zero] at e ⊢
 rw [e]
 simp
theorem qiz {x:Str} {A B C:List Nat} (h:sg x=A++B++C):Builtin.Str.strSub x A.length (A.length+B.length)=⟨B.toArray⟩:=by
 refine ext ?_
 show (Builtin.Str.strSub x A.length (A.length+B.length)).cps.toList=_
 rw [StrLaws.strSub_toList,show x.cps.toList=A++B++C from h,Nat.add_sub_cancel_left,List.append_assoc,List.drop_left,List.take_left]
theorem qpE (x:Str) {c:Nat} (hc:c<256) (k:Nat):Txt.splitMax x ⟨#[c]⟩ (k:Int)=StrLaws.partsFrom x 1 0 ((qgb c (sg x) 0).take k):=by
 unfold Txt.splitMax
 have hl:limitOf x (k:Int)=k:=by
   unfold limitOf
   rw [if_neg (by omega),Int.toNat_natCast]
 have nil:(qgb c (sg x) 0).take k=[]→[x]=StrLaws.partsFrom x 1 0 ((qgb c (sg x) 0).take k):=fun e=>by
   rw [e]
   show [x]=[Builtin.Str.strSub x 0 x.length]
   rw [StrLaws.sub_whole]
 split
 · rename_i h
   refine nil ?_
   rw [Bool.or_eq_true,decide_eq_true_eq,decide_eq_true_eq] at h
   rcases h with h | h
   · have h:x.length<1:=h
     have:sg x=[]:=List.length_eq_zero_iff.mp (by rw [len_sg];omega)
     rw [this]
     simp [qgb]
   · have e1:Builtin.Str.strKind ⟨#[c]⟩=1:=by
       unfold Builtin.Str.strKind
       rw [if_pos (by simp [hc])]
     have:1≤Builtin.Str.strKind x:=by
       unfold Builtin.Str.strKind
       split
       · decide
       · split<;>decide
     omega
 · rw [hl,qoQ]
   split
   · rename_i h
     exact nil (List.isEmpty_iff.mp h)
   · rw [StrLaws.partsBetween_eq]
     rfl
theorem max_two {x a b r:Str} {c:Nat} (hc:c<256) (h:sg x=sg a++c::(sg b++c::sg r)) (ha:c∉sg a) (hb:c∉sg b):Txt.splitMax x ⟨#[c]⟩ 2=[a,b,r]:=by
 have e:Txt.splitMax x ⟨#[c]⟩ ((2:Nat):Int)=_:=qpE x hc 2
 refine Eq.trans e ?_
 have e1:qgb c (sg x) 0=(sg a).length::((sg a).length+1+(sg b).length)::qgb c (sg r) ((sg a).length+1+(sg b).length+1):=by
   rw [h,qgZ,qiu c _ _ ha]
   show (if c=c then _ else _)=_
   rw [if_pos rfl,qgZ,qiu c _ _ hb]
   show _::(if c=c then _ else _)=_
   rw [if_pos rfl,Nat.zero_add]
 rw [e1]
 show [Builtin.Str.strSub x 0 (sg a).length,Builtin.Str.strSub x ((sg a).length+1) ((sg a).length+1+(sg b).length),Builtin.Str.strSub x ((sg a).length+1+(sg b).length+1) x.length]=_
 have z1:=qiz (x:=x) (A:=[]) (B:=sg a) (C:=c::(sg b++c::sg r)) (by simpa using h)
 have z2:=qiz (x:=x) (A:=sg a++[c]) (B:=sg b) (C:=c::sg r) (by rw [h];simp)
 have z3:=qiz (x:=x) (A:=sg a++[c]++sg b++[c]) (B:=sg r) (C:=[]) (by rw [h];simp)
 have hl:x.length=(sg a).length+1+(sg b).length+1+(sg r).length:=by
   rw [←len_sg,h]
   simp only [List.length_append,List.length_cons]
   omega
 rw [hl]
 simp only [List.length_append,List.length_cons,List.length_nil,Nat.zero_add] at z1 z2 z3
 rw [z1,z2,z3]
theorem split_cons {x a r:Str} {c:Nat} (h:sg x=sg a++c::sg r) (ha:c∉sg a):Txt.split x ⟨#[c]⟩=a::Txt.split r ⟨#[c]⟩:=by
 have hp:=PyProof.Rows.split_pos r ⟨#[c]⟩
 have ne:Txt.split r ⟨#[c]⟩≠[]:=fun z=>by rw [z] at hp;exact absurd hp (by decide)
 have e:x=Txt.join ⟨#[c]⟩ (a::Txt.split r ⟨#[c]⟩):=by
   refine ext ?_
   have e1:=congrArg sg (StrLaws.join_split r ⟨#[c]⟩)
   rw [sg_join] at e1
   rw [txt_join,List.map_cons,jn_cons (by simpa using ne),e1,h]
 rw [e]
 refine split_join (by simp) fun w hw=>?_
 rcases List.mem_cons.mp hw with rfl | hw
 · exact ha
 · exact StrLaws.split_free r c w hw
theorem split_nofree {x:Str} {c:Nat} (h:c∉sg x):Txt.split x ⟨#[c]⟩=[x]:=by
 have:=split_join (c:=c) (ws:=[x]) (by simp) (fun w hw=>by rw [List.mem_singleton.mp hw];exact h)
 exact this
end Tx
namespace L2
open PySem PySem.Spec PyProof.Rows
structure qsF (P:Program) (w:World) (K:PySem.W.Frag) (mg:Str→Option Value) (base:Heap) (C:Addr) (m:Str) (k:Nat) (ps:List Str) (sp:Sp) (f:Addr) (fd:FuncData):Prop where
 ok:qaZ P w K mg base (CX1 P w) k f fd ps sp
 me:qqw K C m f
 bd:qdP K fd ps []
structure qsH (P:Program) (w:World) (K:PySem.W.Frag) (mg:Str→Option Value) (base:Heap) (C:Addr) (k:Nat) (ps:List Str) (sp:Sp) (f:Addr) (fd:FuncData):Prop where
 ok:qaZ P w K mg base (CX1 P w) k f fd ps sp
 mc:Mk K C f
 bd:qdP K fd ps []
section
variable {X:Cx} {k j:Nat} {f C:Addr} {fd:FuncData} {ps:List Str} {sp:Sp} {E:XK} {x m:Str} {p pos apos:Pos} {e o:Expr} {es:List Expr} {ta:TE} {t:TA}
end
def qrb (K:PySem.W.Frag) (a b:Addr):It :=
 ⟨fun i H=>∃xs ys x y,SqT K H a xs∧SqL K H b ys∧xs[i]?=some x∧ys[i]?=some y,fun i H v H'=>∃t,v = .ref t∧H t=none∧∀xs ys x y,SqT K H a xs→SqL K H b ys→xs[i]?=some x→ys[i]?=some y→H'=upd H t (.tup [x,y]),
   fun i H=>∃xs,SqT K H a xs∧xs.length≤i⟩
theorem qlx {P:Program} {w:World} {K:PySem.W.Frag} {elts:List Expr} {x1:Nat} {pos:Pos} (a b z TI TO i1 i2:Addr) (D:ZipApart z TI TO i1 i2 a b):ql2 P w K (.Tuple elts x1 pos) (qrb K a b) [z,TI,TO,i1,i2] z
   (fun i h=>IsZip h z TI TO .none∧IsPair h TI (.ref i1) (.ref i2)∧(∃c d,IsPair h TO c d)∧IsTupIter h i1 a i∧h.IsListIter i2 b i) where
 mem:=by simp
 obj:=fun i h st c hc=>by
   obtain ⟨hz,h1,⟨c1,d1,h2⟩,⟨o1,e1,_,q1⟩,⟨o2,e2,_,q2⟩⟩:=st
   simp only [List.mem_cons,List.not_mem_nil,or_false] at hc
   rcases hc with rfl | rfl | rfl | rfl | rfl
   · exact ⟨_,hz,fun v y=>by have y':Data.fields _=Data.cell v:=y;cases y'⟩
   · exact ⟨_,h1,fun v y=>by have y':Data.seq _ _=Data.cell v:=y;cases y'⟩
   · exact ⟨_,h2,fun v y=>by have y':Data.seq _ _=Data.cell v:=y;cases y'⟩
   · exact ⟨o1,e1,fun v y=>by rw [q1] at y;cases y⟩
   · exact ⟨o2,e2,fun v y=>by rw [q2] at y;cases y⟩
 keep:=fun i h h' st k=>by
   obtain ⟨hz,h1,⟨c1,d1,h2⟩,⟨o1,e1,q1⟩,h4⟩:=st
   exact ⟨k z (by simp) _ hz,k TI (by simp) _ h1,⟨c1,d1,k TO (by simp) _ h2⟩,⟨o1,k i1 (by simp) _ e1,q1⟩,h4.at fun o q=>k i2 (by simp) o q⟩
 item:=by
   intro X hP hw hK hc i pins s σ H E I hf st hg
   subst hP hw hK
   obtain ⟨xs,ys,x,y,hqa,hqb,hx,hy⟩:=hg
   obtain ⟨itsa,rva,pa,hza⟩:=I.tuple hqa
   obtain ⟨itsb,rvb,pb,hzb⟩:=I.list hqb
   obtain ⟨u,hu,ru⟩:=rva.get hx
   obtain ⟨v,hv,rv⟩:=rvb.get hy
   obtain ⟨hz,h1,⟨c1,d1,h2⟩,h3,h4⟩:=st
   have fr:=I.hok.fresh (Nat.le_refl s.heap.objs.size)
   have lt:∀c∈[z,TI,TO,i1,i2],c<s.heap.objs.size:=fun c hc=>by
     simp only [List.mem_cons,List.not_mem_nil,or_false] at hc
     rcases hc with rfl | rfl | rfl | rfl | rfl
     · exact Heap.lt_size hz
     · exact Heap.lt_size h1
     · exact Heap.lt_size h2
     · obtain ⟨_,q,_⟩:=h3;exact Heap.lt_size q
     · obtain ⟨_,q,_⟩:=h4;exact Heap.lt_size q
   refine qoV D (Drw.tup D.l1i1) (Drw.list D.l2i2) hz h1 h2 ⟨h3,pa⟩ ⟨h4,pb.isList⟩ (x:=u) (y:=v) (by simpa using hu) (by simpa using hv) fun h' a1 a2 a3 a4 a5 hk=>⟨_,rfl,?_⟩
   refine wpAny_letOwnedTupleGo_zip (s:={ s with heap:=h' }) a1 fun g2 hz2 hs2=>?_
   have I1:Inv X pins σ (upd H s.heap.objs.size (.tup [x,y])) { s with heap:=s.heap.push { cls := .type "tuple",data := .seq #[u,v] },toks:=s.toks } :=
     I.laid (t':=s.toks) (fun b u e=>Heap.get?_push_of_some _ e) (Nat.le_refl _) ⟨by simp;decide,[u,v],.cons ru (.cons rv .nil),⟨_,Heap.get?_push_size _ rfl,rfl,_,rfl⟩⟩
   have up:∀c∈[z,TI,TO,i1,i2],upd H s.heap.objs.size (.tup [x,y]) c=none:=fun c hc=>by
     rw [qaz (Nat.ne_of_lt (lt c hc))]
     exact (hf c hc).1
   have I2:Inv X pins σ (upd H s.heap.objs.size (.tup [x,y])) { s with heap:=g2,toks:=s.toks }
     := Inv.turnedL (s:={ s with heap:=s.heap.push { cls := .type "tuple",data := .seq #[u,v] },toks:=s.toks }) (h':=g2) (t':=s.toks) (ch:=[z,TI,TO,i1,i2]) I1 (fun b o hb q=>by
     simp only [List.mem_cons,List.not_mem_nil,or_false,not_or] at hb
     rw [hs2.2 b hb.1]
     by_cases c:b=s.heap.objs.size
     · subst c
       have q0:(s.heap.push { cls := .type "tuple",data := .seq #[u,v] }).get? s.heap.objs.size=some { cls := .type "tuple",data := .seq #[u,v] }:=Heap.get?_push_size _ rfl
       have q1:(s.heap.push { cls := .type "tuple",data := .seq #[u,v] }).get? s.heap.objs.size=some o:=q
       rw [q0] at q1
       cases q1
       exact a5
     · have q1:(s.heap.push { cls := .type "tuple",data := .seq #[u,v] }).get? b=some o:=q
       rw [Heap.get?_push_ne _ _ _ c] at q1
       exact hk b o hb.1 hb.2.2.1 hb.2.2.2.1 hb.2.2.2.2 q1) (fun c hc=>⟨up c hc,(hf c hc).2⟩)
   refine ⟨.ref s.heap.objs.size,_,I2,rfl,⟨_,rfl,fr,fun xs' ys' x' y' hxa hyb hx' hy'=>?_⟩,⟨hz2,?_,⟨_,_,(hs2.2 TO D.TOz).trans a2⟩,?_,a4.1.at fun o q=>(hs2.2 i2 D.i2z).trans q⟩,up⟩
   · rw [I.tuple_inj hxa hqa,hx] at hx'
     rw [I.list_inj hyb hqb,hy] at hy'
     cases hx'
     cases hy'
     rfl
   · exact (hs2.2 TI D.TIz).trans (hk TI _ D.TIz D.TITO D.TIi1 D.TIi2 h1)
   · obtain ⟨o,e,r⟩:=a3.1
     exact ⟨o,(hs2.2 i1 D.i1z).trans e,r⟩
 done:=by
   intro X hP hw hK hc i pins s σ H E I hf st hg
   subst hP hw hK
   obtain ⟨xs,hqa,hx⟩:=hg
   obtain ⟨itsa,rva,pa,hza⟩:=I.tuple hqa
   obtain ⟨hz,h1,⟨c1,d1,h2⟩,h3,h4⟩:=st
   have la:=rva.length
   refine qnU (I.ok.hd hc) D (Drw.tup D.l1i1) hz h1 h2 ⟨h3,pa⟩ (by simp;omega) fun h' hk=>⟨rfl,I.turnedL (t':=s.toks) (ch:=[z,TI,TO,i1,i2]) (fun b o hb e=>?_) hf⟩
   simp only [List.mem_cons,List.not_mem_nil,or_false,not_or] at hb
   exact hk b o hb.1 hb.2.2.1 hb.2.2.2.1 hb.2.2.2.2 e
 self:=fun _ _ _ _ _ st h=>wpAny_pyIter_zip st.1 h
abbrev qrh (h:Heap) (l1:Addr):Heap:=h.push { cls := .type "tuple_iterator",data := .fields #[.ref l1,.int 0 0] }
abbrev qrc (h:Heap) (l1 l2:Addr):Heap:=(qrh h l1).push { cls := .type "list_iterator",data := .fields #[.ref l2,.int 0 0] }
abbrev qrf (h:Heap) (l1 l2:Addr):Heap:=(qrc h l1 l2).push { cls := .type "tuple",data := .seq #[.ref h.objs.size,.ref (qrh h l1).objs.size] }
abbrev qre (h:Heap) (l1 l2:Addr):Heap:=(qrf h l1 l2).push { cls := .type "tuple",data := .seq #[.none,.none] }
abbrev qpv (h:Heap) (l1 l2:Addr):Heap:=(qre h l1 l2).push { cls := .type "zip",data := .fields #[.none,.bool false,.bool false,.ref (qrc h l1 l2).objs.size,.ref (qrf h l1 l2).objs.size] }
theorem qj1 (l1 l2:Addr) (xs ys:Array Value):Meets (Builtin.«zip.__new__» ⟨[.type "zip",.ref l1,.ref l2],[]⟩) (fun _ R s=>IsTup s.heap l1 xs∧s.heap.IsList l2 ys∧R (.ok (.ret (.ref (qre s.heap l1 l2).objs.size))) { s with heap:=qpv s.heap l1 l2 }) :=
 .of_wp fun prog w A R s h=>by
   obtain ⟨hp,g,d,tk,os⟩:=s;obtain ⟨q1,q2,h⟩:=h;have hsub:=sub_zip
   have hL1:IsTup (Shared.heap ⟨hp,g,d,tk,os⟩) l1 xs:=q1
   have hL2:Heap.IsList (Shared.heap ⟨hp.push { cls := .type "tuple_iterator",data := .fields #[.ref l1,.int 0 0] },g,d,tk,os⟩) l2 ys:=Heap.IsList.push q2 _
   wp_walk using iter_tuple hL1,wpAny_pyIter_list hL2
   exact ⟨_,rfl,h⟩
theorem qk6 {prog:Program} {w:World} {A:Around} {E:Value→Shared→Prop} {s:Shared} {l1 l2:Addr} {xs ys:Array Value} {Q:Value→Shared→Prop} (q1:IsTup s.heap l1 xs) (q2:s.heap.IsList l2 ys)
   (h:∀g,IsZip g (s.heap.objs.size+4) (s.heap.objs.size+2) (s.heap.objs.size+3) .none→IsPair g (s.heap.objs.size+2) (.ref s.heap.objs.size) (.ref (s.heap.objs.size+1))→IsPair g (s.heap.objs.size+3) .none .none→IsTupIter g s.heap.objs.size l1 0→g.IsListIter (s.heap.objs.size+1) l2 0 →
     (∀c o,s.heap.get? c=some o→g.get? c=some o)→Q (.ref (s.heap.objs.size+4)) { s with heap:=g }) :
   wpAny (model prog w) A (call (.type "zip") [.ref l1,.ref l2]) Q E s:=by
 refine callType_new F.called_zip (by decide) (F.typeCall_zip_2 _ _) (F.newCall_zip_2 _ _) (fun obj=>F.args_object_init_3 obj _ _) F.entry_zip_new (qj1 l1 l2 xs ys) ⟨q1,q2,?_⟩
 have z1:(qrh s.heap l1).objs.size=s.heap.objs.size+1:=Heap.size_push ..
 have z2:(qrc s.heap l1 l2).objs.size=s.heap.objs.size+2:=by rw [Heap.size_push,z1]
 have z3:(qrf s.heap l1 l2).objs.size=s.heap.objs.size+3:=by rw [Heap.size_push,z2]
 have z4:(qre s.heap l1 l2).objs.size=s.heap.objs.size+4:=by rw [Heap.size_push,z3]
 have k5:(qpv s.heap l1 l2).get? (qre s.heap l1 l2).objs.size=some _:=Heap.get?_push_size _ rfl
 have k4:(qpv s.heap l1 l2).get? (qrf s.heap l1 l2).objs.size=some _:=Heap.get?_push_of_some _ (Heap.get?_push_size _ rfl)
 have k3:(qpv s.heap l1 l2).get? (qrc s.heap l1 l2).objs.size=some _:=Heap.get?_push_of_some _ (Heap.get?_push_of_some _ (Heap.get?_push_size _ rfl))
 have k2:(qpv s.heap l1 l2).get? (qrh s.heap l1).objs.size=some _:=Heap.get?_push_of_some _ (Heap.get?_push_of_some _ (Heap.get?_push_of_some _ (Heap.get?_push_size _ rfl)))
 have k1:(qpv s.heap l1 l2).get? s.heap.objs.size=some _:=Heap.get?_push_of_some _ (Heap.get?_push_of_some _ (Heap.get?_push_of_some _ (Heap.get?_push_of_some _ (Heap.get?_push_size _ rfl))))
 show _∧_
 rw [z2,z3,z4] at k5;rw [z1,z2] at k3;rw [z3] at k4;rw [z1] at k2;rw [z4]
 exact ⟨⟨_,k5,rfl⟩,h _ k5 k3 k4 ⟨_,k1,rfl,rfl⟩ ⟨_,k2,rfl,rfl⟩ fun c o x=>Heap.get?_push_of_some _ (Heap.get?_push_of_some _ (Heap.get?_push_of_some _ (Heap.get?_push_of_some _ (Heap.get?_push_of_some _ x))))⟩
section
variable {X:Cx} {K:PySem.W.Frag}
def qqt (K:PySem.W.Frag) (ta:TA):TI:=fun σ H R=>ta σ H fun vs H1=>∃a b xs ys,vs=[.ref a,.ref b]∧SqT K H1 a xs∧SqL K H1 b ys∧R (qrb K a b) H1
theorem qoG {a b:Expr} {elts:List Expr} {x1:Nat} {tp:Pos} {ta:TA} {p pos:Pos} (hK:X.K=K) (hg:Gl X "zip") (hm:X.mg "zip" = none) (ha:PA X [a,b] ta) (hs:starEach [a,b] X.env=(false,eval a X.env)::starEach [b] X.env:=by rfl) (hs2:(backTo pos (starEach [b] X.env)).any (·.1)=false:=by rfl):PI X (.Tuple elts x1 tp) (.Call (.Name "zip" p) [a,b] [] pos) (qqt K ta):=by
 subst hK
 intro pins s σ H R I h
 refine Call_ (qeE I hg hm PyProof.Rows.boot_zip (PyProof.Rows.callWith_type1 (thn (ha pos pins s σ H _ I h) fun us s1 ⟨vs,H1,I1,r1,q1⟩=>?_) hs hs2))
 obtain ⟨l1,l2,xs,ys,rfl,hqa,hqb,q⟩:=q1
 obtain ⟨u,v,rfl,ru,rv⟩:=qn9 r1
 cases ru
 cases rv
 obtain ⟨itsa,rva,pa,hza⟩:=I1.tuple hqa
 obtain ⟨itsb,rvb,pb,hzb⟩:=I1.list hqb
 have la:l1<s1.heap.objs.size:=by obtain ⟨_,q,_⟩:=pa;exact Heap.lt_size q
 have lb:l2<s1.heap.objs.size:=by obtain ⟨_,q,_⟩:=pb.isList;exact Heap.lt_size q
 generalize en:s1.heap.objs.size=n at la lb
 refine qk6 pa pb.isList fun h' g1 g2 g3 g4 g5 hk=>?_
 rw [en] at g1 g2 g3 g4 g5 ⊢
 have I2:Inv X pins σ H1 { s1 with heap:=h' }:=I1.kept (t':=s1.toks) hk
 refine wpAny_pyIter_zip g1 ⟨n+4,[n+4,n+2,n+3,n,n+1],_,_,H1,rfl,I2,qlx l1 l2 (n+4) (n+2) (n+3) n (n+1) ?_,⟨g1,g2,⟨_,_,g3⟩,g4,g5⟩,fun c hb=>?_,q⟩
 · have la':@LT.lt Nat _ l1 n:=la
   have lb':@LT.lt Nat _ l2 n:=lb
   constructor<;>(intro z;exact absurd (show @Eq Nat _ _ from z) (by omega))
 · have:n≤c:=by
     simp only [List.mem_cons,List.not_mem_nil,or_false] at hb
     rcases hb with rfl | rfl | rfl | rfl | rfl<;>omega
   exact I1.fpOk (by omega) (I1.hok.fresh (by omega))
end
section
variable {K:PySem.W.Frag} {g:TG} {tt:TT} {te:TE} {nt:Nat} {caps:List Nat} {σ:L2.St} {H:Hp} {a b:Addr} {ta:TA} {Q:VK}
theorem qmU:qfV nt caps (qqt K ta) g tt te σ H Q↔ta σ H fun vs H1=>∃a b xs ys,vs=[.ref a,.ref b]∧SqT K H1 a xs∧SqL K H1 b ys∧qdo (qrb K a b) nt caps g tt te σ H1 Q:=Iff.rfl
theorem qqb {xs ys:List V} (hle:xs.length=ys.length) (Pv:Nat→List V→Hp→Prop) (h0:Pv 0 [] H) (hz:xs.length≤sizeLine) (hl:∀i zs H1,i≤xs.length→Pv i zs H1→SqT K H1 a xs∧SqL K H1 b ys∧zs.length≤i)
   (hs:∀i x y zs H1 t,xs[i]?=some x→ys[i]?=some y→Pv i zs H1→H1 t=none→∀(R:VK) (R':Hp→Prop),(∀v H2,Pv (i+1) (zs++[v]) H2→R v H2)→(∀H2,Pv (i+1) zs H2→R' H2) →
     g (.ref t) (qbm nt caps σ) (upd H1 t (.tup [x,y])) fun σ4 H4=>tt σ4 H4 fun b H5=>if b=true then te σ4 H5 R else R' H5)
   (hd:∀zs H1,Pv xs.length zs H1→∀p,H1 p=none→Q (.ref p) (upd H1 p (.lst zs))):qdo (qrb K a b) nt caps g tt te σ H Q:=by
 refine ⟨fun i m zs H1=>m=xs.length-i∧i≤xs.length∧Pv i zs H1,⟨_,rfl,Nat.zero_le _,h0⟩,?_⟩
 rintro i m zs H2 ⟨rfl,hi,p⟩
 obtain ⟨hqa,hqb,hlen⟩:=hl i zs H2 hi p
 by_cases hlt:i<xs.length
 · have hx:xs[i]?=some xs[i]:=List.getElem?_eq_getElem hlt
   have hy:ys[i]?=some (ys[i]'(by omega)):=List.getElem?_eq_getElem _
   refine .inr ⟨⟨xs,ys,_,_,hqa,hqb,hx,hy⟩,by omega,fun x H3 y=>?_⟩
   obtain ⟨t,rfl,ht,y⟩:=y
   rw [y _ _ _ _ hqa hqb hx hy]
   exact hs i _ _ zs H2 t hx hy p ht _ _ (fun v H4 q=>⟨xs.length-(i+1),by omega,rfl,hlt,q⟩) fun H4 q=>⟨xs.length-(i+1),by omega,rfl,hlt,q⟩
 · obtain rfl:i=xs.length:=by omega
   exact .inl ⟨⟨xs,hqa,Nat.le_refl _⟩,by omega,fun p' hp'=>hd zs H2 p p' hp'⟩
end
end L2
namespace L2
open PySem PySem.Spec PyProof.Rows
def qfE:Sp:=fun _ _ _ _=>False
structure qfe (P:Program) (w:World) (K:PySem.W.Frag) (mg:Str→Option Value) (base:Heap) (C:Addr) (m:Str) (k:Nat) (ps:List Str) (sp:Sp) (f:Addr) (fd:FuncData):Prop where
 ok:qaZ P w K mg base CX0 k f fd ps sp
 me:qqw K C m f
 bd:qdP K fd ps []
structure qoC (P:Program) (w:World) (K:PySem.W.Frag) (mg:Str→Option Value) (base:Heap) (C:Addr) (k:Nat) (ps:List Str) (sp:Sp) (f:Addr) (fd:FuncData):Prop where
 ok:qaZ P w K mg base CX0 k f fd ps sp
 mc:Mk K C f
 bd:qdP K fd ps []
section
variable {X:Cx} {k j:Nat} {f C:Addr} {fd:FuncData} {ps:List Str} {sp:Sp} {x m:Str} {p pos apos:Pos} {e o:Expr} {es:List Expr} {ta:TE} {t:TA}
theorem qaK {pl:Sem Bool} (he:PE X o ta) (c:Cls X.K C) (M:qfe X.prog X.w X.K X.mg X.base C m k ps sp f fd) (hr:qd3 j X.A) (hj:k≤j) (ha:PA X (e::es) t)
 (hst:starEach (e::es) X.env=(false,eval e X.env)::starEach es X.env:=by rfl) (hpl:(backTo pos (starEach es X.env)).any (·.1)=false:=by rfl)
 (ht:eval (.Call (.Attribute o m apos) (e::es) [] pos) X.env=(do
   let ov ←eval o X.env
   standAt apos.atName
   let (f,first) ←holding [ov] (getMethod ov m pl)
   callWith pos f first (backTo pos (starEach (e::es) X.env)) (backToKw pos (keywordEach [] X.env))):=by rfl) :
 PE X (.Call (.Attribute o m apos) (e::es) [] pos) (qok C m sp [] E0 ta t):=qpj he c M.me M.ok (hr.mono hj) M.bd .nil qn0 ha hst hpl ht
theorem qmT (M:qoC X.prog X.w X.K X.mg X.base C k ps sp f fd) (hr:qd3 j X.A) (hj:k+1≤j) (hg:Gl X x) (hm:X.mg x=some (.ref C)) (ha:PA X (e::es) t) (hdb:(x==("__debug__" : Str))=false:=by decide)
 (he:starEach (e::es) X.env=(false,eval e X.env)::starEach es X.env:=by rfl) (hpl:(backTo pos (starEach es X.env)).any (·.1)=false:=by rfl) :
 PE X (.Call (.Name x p) (e::es) [] pos) (qo3 C sp [] E0 t):=qpg M.mc M.ok (hr.mono hj) hg hm M.bd .nil qn0 ha hdb he hpl
end
def qiO:List (Str×List Str):=[("let",["new", "text"]),("hits",["new", "family"]),("rests",["new", "family"]),("either",["new", "family", "family"]),("both",["new", "family", "family"]),("in",["new", "family", "name"]),("out",["new", "family", "name"]),("show",["family"]),("says",["family", "set"]),("look",["family", "set"]),("held",["family", "family"]),("compare",["family", "name", "name"]),("turns",["family"]),("ranks",["family"]),("weights",["family"])]
def wanted (z:Str):Option (List Str):=qiO.lookup z
structure Wnt (P:Program) (w:World) (K:PySem.W.Frag) (aW:Addr):Prop where
 kv:∃kvs,KDt P w K aW kvs∧∀z ks,wanted z=some ks→∃t,qdr kvs (Sum.inr z)=some (.ref t)∧∀H,SqT K H t (sV ks)
structure Prt (z:Str) (d:Str) (r ks:List Str):Prop where
 hd:(Txt.split z " ")[0]?=some d
 kd:wanted d=some ks
 ps:(if d = "let" then Txt.splitMax z " " 2 else Txt.split z " ")=d::r
 ln:r.length=ks.length
 sz:z.length≤9000
inductive Th where
 | nm (z:Str) | fm (fs:List Nat) | nu (a:Nat)
def ThV (H:Hp):Th→V→Prop
 | .nm z,v=>v = .str z
 | .fm fs,v=>∃p,v = .ref p∧H p=some (.lst (nV fs))
 | .nu a,v=>v = .int (a:Nat)
theorem ThV.same {H H':Hp} (s:qau H H'):∀{th:Th} {v:V},ThV H th v→ThV H' th v
 | .nm _,_,h=>h
 | .fm _,_,⟨p,e,h⟩=>⟨p,e,s _ _ h⟩
 | .nu _,_,h=>h
structure Fml (n:Nat) (fs:List Nat):Prop where
 rise:fs.Pairwise (· < ·)
 lt:∀b∈fs,b<2^n
 few:fs.length≤70
inductive Thg (ws:List Str) (m:List (Str×List Nat)):Str→Str→Th→Prop
 | new {w:Str}:Tx.Wd w→Thg ws m "new" w (.nm w)
 | fam {w:Str} {fs:List Nat}:m.lookup w=some fs→Thg ws m "family" w (.fm fs)
 | name {w:Str}:w∈ws→Thg ws m "name" w (.nu (ws.idxOf w))
 | set {a:Nat}:a<2^ws.length→Thg ws m "set" (Tx.sT ws a) (.nu a)
 | text {fs:List Nat}:Fml ws.length fs→Thg ws m "text" (Tx.fT ws fs) (.fm fs)
def qnr (pw pk:Addr):List (Str×V):=[("words",.ref pw),("kept",.ref pk)]
theorem kne:¬(("words" : Str) = "kept"):=by decide +kernel
theorem qia (pw pk:Addr):(qnr pw pk).lookup ("words" : Str)=some (.ref pw):=by
 unfold qnr
 rw [List.lookup_cons]
 simp
theorem qik (pw pk:Addr):(qnr pw pk).lookup ("kept" : Str)=some (.ref pk):=by
 unfold qnr
 rw [List.lookup_cons,show (("kept" : Str) == "words")=false from beq_eq_false_iff_ne.mpr fun e=>kne e.symm]
 simp
theorem qaX (pw pk:Addr) {m:Str} (h1:(m==("words" : Str))=false) (h2:(m==("kept" : Str))=false):(qnr pw pk).lookup m=none:=by
 unfold qnr
 simp only [List.lookup,h1,h2]
theorem qmo (pw pk:Addr):qg2 "kept" (.ref pk) (qg2 "words" (.ref pw) [])=qnr pw pk:=by
 show (if ("words" : Str) = "kept" then _ else _)=_
 rw [if_neg kne]
 rfl
def Kps (H:Hp) (kvs:List (Key×V)) (m:List (Str×List Nat)):Prop :=
 kvs.length=m.length∧∀n:Str,match m.lookup n with
   | some fs=>∃p,qdr kvs (Sum.inr n)=some (.ref p)∧H p=some (.lst (nV fs))
   | none=>qdr kvs (Sum.inr n)=none
theorem Kps.same {H H':Hp} {kvs:List (Key×V)} {m:List (Str×List Nat)} (k:Kps H kvs m) (s:∀p fs,H p=some (.lst (nV fs))→H' p=some (.lst (nV fs))):Kps H' kvs m:=by
 refine ⟨k.1,fun n=>?_⟩
 have h:=k.2 n
 cases e:m.lookup n with
 | none=>rw [e] at h;exact h
 | some fs =>
   rw [e] at h
   obtain ⟨p,h1,h2⟩:=h
   exact ⟨p,h1,s p fs h2⟩
theorem Kps.get {H:Hp} {kvs:List (Key×V)} {m:List (Str×List Nat)} (k:Kps H kvs m) {n:Str} {fs:List Nat} (e:m.lookup n=some fs):∃p,qdr kvs (Sum.inr n)=some (.ref p)∧H p=some (.lst (nV fs)):=by
 have h:=k.2 n
 rw [e] at h
 exact h
theorem Kps.no {H:Hp} {kvs:List (Key×V)} {m:List (Str×List Nat)} (k:Kps H kvs m) {n:Str} (e:m.lookup n=none):qdr kvs (Sum.inr n)=none:=by
 have h:=k.2 n
 rw [e] at h
 exact h
def qhH:List (Str×List Nat)→Str→List Nat→List (Str×List Nat)
 | [],n,fs=>[(n,fs)]
 | (x,gs)::r,n,fs=>if x=n then (x,fs)::r else (x,gs)::qhH r n fs
theorem qbq (n x:Str) (fs:List Nat):∀m:List (Str×List Nat),(qhH m n fs).lookup x=if x=n then some fs else m.lookup x
 | []=>by
   show List.lookup x [(n,fs)]=_
   by_cases h:x=n
   · simp [h]
   · simp [List.lookup,h,beq_eq_false_iff_ne.mpr h]
 | (y,gs)::r=>by
   have ih:=qbq n x fs r
   show List.lookup x (if y=n then (y,fs)::r else (y,gs)::qhH r n fs)=_
   by_cases h:y=n
   · rw [if_pos h]
     by_cases g:x=n
     · subst h;subst g;simp
     · have:(x==y)=false:=beq_eq_false_iff_ne.mpr fun e=>g (e.trans h)
       simp only [List.lookup,this,if_neg g]
   · rw [if_neg h]
     by_cases g:x=y
     · subst g;simp [if_neg h]
     · have:(x==y)=false:=beq_eq_false_iff_ne.mpr g
       simp only [List.lookup,this]
       exact ih
theorem qbT (n:Str) (fs:List Nat):∀m:List (Str×List Nat),(qhH m n fs).length=m.length+if (m.lookup n).isSome then 0 else 1
 | []=>rfl
 | (y,gs)::r=>by
   have ih:=qbT n fs r
   show (if y=n then (y,fs)::r else (y,gs)::qhH r n fs).length=_
   by_cases h:y=n
   · rw [if_pos h]
     subst h
     simp
   · rw [if_neg h,List.length_cons,ih,List.length_cons]
     have:(n==y)=false:=beq_eq_false_iff_ne.mpr fun e=>h e.symm
     simp only [List.lookup,this]
     omega
theorem qj4 (kvs:List (Key×V)) (k:Key) (v:V):(qil kvs k v).length=kvs.length+if (qdr kvs k).isSome then 0 else 1:=by
 unfold qil
 rw [qd5]
 cases (qdr kvs k).isSome<;>simp
theorem Kps.put {H:Hp} {kvs:List (Key×V)} {m:List (Str×List Nat)} (k:Kps H kvs m) {n:Str} {fs:List Nat} {p:Addr} (h:H p=some (.lst (nV fs))):Kps H (qil kvs (Sum.inr n) (.ref p)) (qhH m n fs):=by
 refine ⟨?_,fun x=>?_⟩
 · rw [qj4,qbT,k.1]
   have e:=k.2 n
   cases c:m.lookup n with
   | none=>rw [c] at e;rw [e];rfl
   | some gs =>
     rw [c] at e
     obtain ⟨q,e1,_⟩:=e
     rw [e1]
     rfl
 · rw [qbq,qna]
   by_cases g:x=n
   · rw [if_pos g,if_pos (by rw [g])]
     exact ⟨p,rfl,h⟩
   · rw [if_neg g,if_neg (fun e=>g (Sum.inr.inj e))]
     exact k.2 x
structure qfj (C:Addr) (H:Hp) (d pk:Addr) (ws:List Str) (m:List (Str×List Nat)):Prop where
 ob:∃dx pw,H d=some (.ins C dx (qnr pw pk))∧H pw=some (.lst (sV ws))
 dc:∃kvs,H pk=some (.dK kvs)∧Kps H kvs m
 wd:Tx.Wds ws
 fm:∀n fs,m.lookup n=some fs→Fml ws.length fs
 ms:m.length≤20
theorem qfj.same {C:Addr} {H H':Hp} {d pk:Addr} {ws:List Str} {m:List (Str×List Nat)} (D:qfj C H d pk ws m) (s:qau H H'):qfj C H' d pk ws m:=by
 obtain ⟨dx,pw,h1,h2⟩:=D.ob
 obtain ⟨kvs,h3,h4⟩:=D.dc
 exact ⟨⟨dx,pw,s _ _ h1,s _ _ h2⟩,⟨kvs,s _ _ h3,h4.same fun p fs h=>s _ _ h⟩,D.wd,D.fm,D.ms⟩
def SmB (pk:Addr) (H H':Hp):Prop:=∀b o,H b=some o→b≠pk→H' b=some o
section
variable {K:PySem.W.Frag} {D:qgd} {σ:L2.St} {H:Hp} {u:TS} {ta tv td ty:TE} {f:Str}
theorem qmc:qk9 (qrH K ta tv f) u D σ H↔tv σ H fun y H1=>ta σ H1 fun x H2=>∃a C dx fs,x = .ref a∧H2 a=some (.ins C dx fs)∧Cls K C∧qdJ K C f∧fs.length<1000∧u D σ (upd H2 a (.ins C dx (qg2 f y fs))):=Iff.rfl
theorem qk5:qk9 (qoo td ty tv) u D σ H↔tv σ H fun v H1=>td σ H1 fun x H2=>ty σ H2 fun y H3=>∃a H4,x = .ref a∧qpy H3 a y v H4∧u D σ H4:=Iff.rfl
end
def qhB (H:Hp) (ths:List Th) (vs:List V):Prop:=ths.length=vs.length∧∀(i:Nat) (th:Th) (v:V),ths[i]?=some th→vs[i]?=some v→ThV H th v
theorem qhB.same {H H':Hp} {ths:List Th} {vs:List V} (h:qhB H ths vs) (s:qau H H'):qhB H' ths vs:=⟨h.1,fun i th v h1 h2=>(h.2 i th v h1 h2).same s⟩
theorem qhB.nil {H:Hp}:qhB H [] []:=⟨rfl,fun i th v h1 h2=>by cases h1⟩
theorem qhB.snoc {H:Hp} {ths:List Th} {vs:List V} {th:Th} {v:V} (h:qhB H ths vs) (h2:ThV H th v):qhB H (ths++[th]) (vs++[v]):=by
 refine ⟨by rw [List.length_append,List.length_append,h.1];rfl,fun i t u h3 h4=>?_⟩
 by_cases c:i<ths.length
 · rw [List.getElem?_append_left c] at h3
   rw [List.getElem?_append_left (by rw [←h.1];exact c)] at h4
   exact h.2 i t u h3 h4
 · rw [List.getElem?_append_right (by omega)] at h3
   rw [List.getElem?_append_right (by rw [←h.1];omega),←h.1] at h4
   cases e:i-ths.length with
   | zero =>
     rw [e] at h3 h4
     cases h3
     cases h4
     exact h2
   | succ j=>rw [e] at h3;cases h3
theorem qhB.cons {H:Hp} {ths:List Th} {vs:List V} {th:Th} (h:qhB H (th::ths) vs):∃v us,vs=v::us∧ThV H th v∧qhB H ths us:=by
 cases vs with
 | nil=>exact absurd h.1 (by simp)
 | cons v us=>exact ⟨v,us,rfl,h.2 0 th v rfl rfl,by have:=h.1;simpa using this,fun i t u h1 h2=>h.2 (i+1) t u (by simpa using h1) (by simpa using h2)⟩
theorem qhB.empty {H:Hp} {vs:List V} (h:qhB H [] vs):vs=[]:=List.length_eq_zero_iff.mp h.1.symm
def qhz (ws:List Str) (m:List (Str×List Nat)) (ks r:List Str) (ths:List Th):Prop:=ths.length=ks.length∧∀(i:Nat) (k w:Str) (th:Th),ks[i]?=some k→r[i]?=some w→ths[i]?=some th→Thg ws m k w th
end L2
namespace L2
open PySem PySem.Spec PyProof.Rows
def pre:List Str→Str→Str
 | [],w=>w
 | d::ds,w=>d ++ " " ++ pre ds w
theorem qdt (x y:Str):Tx.sg (x++y)=Tx.sg x++Tx.sg y:=by
 show (x.cps++y.cps).toList=_
 simp [Tx.sg]
theorem qkl (d:Str) (ds:List Str) (w:Str):Tx.sg (pre (d::ds) w)=Tx.sg d++32::Tx.sg (pre ds w):=by
 show Tx.sg (d ++ " " ++ pre ds w)=_
 rw [qdt,qdt,Tx.lit_space,List.append_assoc]
 rfl
theorem qdF:∀(ds:List Str) (w:Str),(∀d∈ds,32∉Tx.sg d)→Txt.split (pre ds w) " " = ds++Txt.split w " "
 | [],w,_=>rfl
 | d::ds,w,h=>by
   rw [Tx.lit_space,Tx.split_cons (qkl d ds w) (h d List.mem_cons_self),←Tx.lit_space,qdF ds w fun x hx=>h x (List.mem_cons_of_mem _ hx)]
   rfl
theorem qfq {d w:Str} {ds ks:List Str} (h1:wanted d=some ks) (hd:¬d = "let") (hf:∀x∈d::ds,32∉Tx.sg x) (hw:32∉Tx.sg w) (hl:ds.length+1=ks.length) (hz:(pre (d::ds) w).length≤9000):Prt (pre (d::ds) w) d (ds++[w]) ks:=by
 have e:Txt.split (pre (d::ds) w) " " = d::(ds++[w]):=by
   rw [qdF _ _ hf,Tx.lit_space,Tx.split_nofree hw]
   rfl
 exact ⟨by rw [e];rfl,h1,by rw [if_neg hd,e],by rw [List.length_append,←hl];rfl,hz⟩
theorem qpb {n w:Str} (hn:32∉Tx.sg n) (hz:(pre ["let",n] w).length≤9000):Prt (pre ["let",n] w) "let" [n,w] ["new", "text"]:=by
 have hl:32∉Tx.sg ("let" : Str):=by decide +kernel
 refine ⟨?_,by decide +kernel,?_,rfl,hz⟩
 · rw [qdF _ _ fun d hd=>?_]
   · rfl
   · rcases List.mem_cons.mp hd with rfl | hd
     · exact hl
     · rw [List.mem_singleton.mp hd]
       exact hn
 · rw [if_pos rfl,Tx.lit_space]
   refine Tx.max_two (by decide) ?_ hl hn
   rw [qkl,qkl]
   rfl
theorem qcU {ws:List Str} {m:List (Str×List Nat)} {k w:Str} {th:Th} (h:Thg ws m k w th):qhz ws m [k] [w] [th]:=by
 refine ⟨rfl,fun i k' w' th' h1 h2 h3=>?_⟩
 cases i with
 | zero=>cases h1;cases h2;cases h3;exact h
 | succ j=>cases h1
theorem qhz.cons {ws:List Str} {m:List (Str×List Nat)} {k w:Str} {th:Th} {ks r:List Str} {ths:List Th} (h:Thg ws m k w th) (t:qhz ws m ks r ths):qhz ws m (k::ks) (w::r) (th::ths):=by
 refine ⟨by rw [List.length_cons,List.length_cons,t.1],fun i k' w' th' h1 h2 h3=>?_⟩
 cases i with
 | zero=>cases h1;cases h2;cases h3;exact h
 | succ j=>exact t.2 j k' w' th' (by simpa using h1) (by simpa using h2) (by simpa using h3)
end L2
namespace L2
open PySem PySem.Spec PyProof.Rows
end L2
namespace L2
open PySem PySem.Spec PyProof.Rows
theorem qcm {K:PySem.W.Frag} {t:Addr} {od:Option Addr} {its:Array Value} {n:Nat} {sl:Array (Option Value)} {ks:List Str} (l:K.lookup t=some ⟨.type "tuple",od,.seq its n,sl⟩) (hs:its.size≤100000) (v:qbd (sV ks) its.toList):∀H,SqT K H t (sV ks) :=
 fun H => .inr ⟨_,its,n,l,rfl,rfl,qaC hs,v⟩
def qri (K:PySem.W.Frag) (w:World):List (Str×List Str)→List DictEntry→Prop
 | [],[]=>True
 | (z,ks)::r,e::es=>(∃(tk:Tok) (t:Addr),e=⟨hashStr w z,.str z tk,.ref t⟩∧∀H,SqT K H t (sV ks))∧qri K w r es
 | _,_=>False
theorem qlB {P:Program} {w:World} {K:PySem.W.Frag}:∀{S:List (Str×List Str)} {es:List DictEntry},qri K w S es →
   ∃(kvs:List (Key×V)) (vs:List (Key×Value)),KV kvs vs∧(∀e∈es,∃k,(qbc P w).is k e.key=true∧e.hash=(qbc P w).hash k)∧Pairs (qbc P w) es vs∧vs.map (·.1)=S.map (fun p=>Sum.inr p.1) ∧
     ∀z ks,S.lookup z=some ks→∃t,qdr kvs (Sum.inr z)=some (.ref t)∧∀H,SqT K H t (sV ks)
 | [],[],_=>⟨[],[],.nil,fun e h=>(by cases h),.nil,rfl,fun z ks h=>by cases h⟩
 | [],_::_,h=>h.elim
 | _::_,[],h=>h.elim
 | (y,us)::S,e::es,h=>by
   obtain ⟨⟨tk,t,rfl,ht⟩,hr⟩:=h
   obtain ⟨kvs,vs,h1,h2,h3,h4,h5⟩:=qlB (P:=P) hr
   refine ⟨(Sum.inr y,.ref t)::kvs,(Sum.inr y,.ref t)::vs,.cons ⟨rfl,rfl⟩ h1,fun e he=>?_,.cons ?_ rfl h3,by rw [List.map_cons,List.map_cons,h4],fun z ks hz=>?_⟩
   · rcases List.mem_cons.mp he with rfl | he
     · exact ⟨Sum.inr y,(by show Value.isStrOf y (.str y tk)=true;simp [Value.isStrOf]),rfl⟩
     · exact h2 e he
   · show Value.isStrOf y (.str y tk)=true
     simp [Value.isStrOf]
   · rw [List.lookup_cons] at hz
     by_cases c:z=y
     · subst c
       simp at hz
       subst hz
       exact ⟨t,by unfold qdr;simp,ht⟩
     · rw [beq_eq_false_iff_ne.mpr c] at hz
       obtain ⟨t',e1,e2⟩:=h5 z ks hz
       refine ⟨t',?_,e2⟩
       unfold qdr at e1 ⊢
       rw [List.find?_cons_of_neg (by simp only [decide_eq_true_eq];exact fun e=>c (Sum.inr.inj e).symm)]
       exact e1
theorem qpP {P:Program} {w:World} {K:PySem.W.Frag} {aW:Addr} {es:Array DictEntry} {ep:Nat} (l:K.lookup aW=some ⟨.type "dict",none,.dict es ep,#[]⟩) (hn:(aW==sysModules)=false) (h:qri K w qiO es.toList):Wnt P w K aW:=by
 obtain ⟨kvs,vs,h1,h2,h3,h4,h5⟩:=qlB (P:=P) h
 refine ⟨kvs,⟨hn,_,vs,l,h1,fun hp hg=>⟨_,es,ep,hg,⟨rfl,rfl,rfl⟩,rfl,fun e he=>h2 e (Array.mem_toList_iff.mpr he),h3,?_⟩⟩,h5⟩
 rw [h4]
 have nd:(qiO.map (·.1)).Nodup:=by decide +kernel
 have:qiO.map (fun p=>(Sum.inr p.1:Key))=(qiO.map (·.1)).map Sum.inr:=by rw [List.map_map];rfl
 rw [this]
 exact List.Pairwise.map _ (fun a b hab e=>hab (Sum.inr.inj e)) nd
end L2
namespace L2
open PySem PySem.Spec PyProof.Rows
section
variable {prog:Program} {w:World} {A:Around} {E:Value→Shared→Prop} {s:Shared}
theorem qqu {it l:Addr} {ys:Array Value} (ne:l≠it):∀(n i:Nat) (s:Shared) (Q:List Value→Shared→Prop),s.heap.IsListIter it l i→s.heap.IsList l ys→i+n≤ys.size →
   (∀h',h'.IsListIter it l (i+n)→Heap.SameBut it s.heap h'→Q ((ys.toList.drop i).take n) { s with heap:=h' })→wpAny (model prog w) A (draw (.ref it) n) Q E s
 | 0,i,s,Q,h1,_,_,q=>wpAny_pure (by simpa using q s.heap h1 (Heap.SameBut.refl ..))
 | n+1,i,s,Q,h1,h2,le,q=>by
   have lt:i<ys.size:=by omega
   unfold draw
   refine wpAny_bind (wpAny_pyNext_list_item h1 h2 (x:=ys[i]) (by simp [lt]) fun g1 k1 e1=>?_)
   refine wpAny_bind (wpAny_holding (qqu ne n (i+1) _ _ k1 (h2.extBut e1.extBut ne) (by omega) fun g2 k2 e2=>wpAny_pure ?_))
   have z:=q g2 (by rw [show i+(n+1)=i+1+n by omega];exact k2) (e1.trans e2)
   rw [show ys.toList.drop i=ys[i]::ys.toList.drop (i+1) by simp [List.drop_eq_getElem_cons,lt],List.take_succ_cons] at z
   exact z
theorem qqq {l:Addr} {ys:Array Value} {Q:List Value→Shared→Prop} (hh:A.handled=none) (hl:s.heap.IsList l ys)
   (q:∀h',Heap.ExtBut s.heap.objs.size s.heap h'→Q ys.toList { s with heap:=h' }):wpAny (model prog w) A (unpackItems (.ref l) ys.size none) Q E s:=by
 have ne:l≠s.heap.objs.size:=by obtain ⟨o,ho,_⟩:=hl;exact Nat.ne_of_lt (Heap.lt_size ho)
 unfold unpackItems notIterableAtAll
 refine wpAny_bind (wpAny_bind (wpAny_specialOf hl.typeIs slot_list_iter.lookup (wpAny_pure ?_)))
 rw [if_neg (by decide)]
 refine wpAny_bind (wpAny_holding (wpAny_pyIter_list hl (wpAny_bind (wpAny_holding (qqu ne ys.size 0 _ _ ⟨_,Heap.get?_push_size _ rfl,rfl,rfl⟩ (hl.push _) (by omega) fun g1 k1 e1=>?_)))))
 rw [show List.take ys.size (List.drop 0 ys.toList)=ys.toList from List.take_of_length_le (by simp),if_neg (by simp)]
 refine wpAny_bind (wpAny_holding (wpAny_pyNext_list_end hh k1 ((hl.push _).extBut e1.extBut ne) (by simp) fun g2 e2=>?_))
 rw [if_neg (by decide)]
 exact wpAny_pure (q g2 fun b o hb e=>e2 b o hb (e1.extBut b o hb (Heap.get?_push_of_some _ e)))
end
section
variable {X:Cx} {pos:Pos}
def qsb (K:PySem.W.Frag) (n:Nat) (t:TGs):TG:=fun v σ H Q=>∃a xs,v = .ref a∧SqL K H a xs∧xs.length=n∧t xs σ H Q
theorem qpK {es:List Expr} {k:Nat} {t:TGs} {n:Nat} (hc:X.calm=true) (h:PGs X es t)
   (hn:(assignEach es X.env).length=n:=by rfl) (hst:(assignEach es X.env).findIdx? (·.1)=none:=by rfl):PG X (.Tuple es k pos) (qsb X.K n t):=by
 intro pins s σ H v u Q I r hw
 obtain ⟨a,xs,e1,hq,hl,hw⟩:=hw
 subst e1
 cases r
 obtain ⟨its,rv,ht,hz⟩:=I.list hq
 rw [assign_Tuple]
 refine wpAny_bind (wpAny_standAt ?_)
 unfold unpack
 rw [show (assignEach es X.env).length=its.toArray.size by simp [hn,←hl,rv.length],hst]
 refine wpAny_bind (wpAny_holding (qqq (I.ok.hd hc) ht.isList fun h' hx=>?_))
 have I1:Inv X pins σ H { s with heap:=h' }:=I.kept (t':=s.toks) fun b o e=>hx b o (Nat.ne_of_lt (Heap.lt_size e)) e
 exact h pins _ σ H xs _ Q I1 (by simpa using rv) hw
end
end L2
open L2 in
local macro_rules | `(tactic| walk_at "rd")=>`(tactic| simp only [ql3,qkw,ql4,qjM,qmZ,qoB,ite_true,ite_false,qkD,qr1,qrG,qoe,qpx,qga,qrE,tC,tOp,tUn,rU,qqZ,tB,qsf,tOr,qr8,qqL,qsq,qp9,qjW,qrL,qoK,tCB,qsa,qsl,qnu,tBM,qr4,qnM,qkP,qqT,qoi,qoz,qpf,qsn,qr5,qoo,qqO,qrU,qmX,qrQ,qnY,qmL,qmC,tSl,qlZ,qqG,qsr,qsb,qrv,qsC,qpc,qou,qqh,qoN,qmB,qmU,qmc,qk5,qrH,qsA,qlN,qqx,qpB,qok,qo3,qsk,tIf,qss,qo7,
 qqg,qpI,qqr,qqe,qnz,qno,qpp,qqU,qqz,qqa,qpT,qqD,qql,qpG,qqk,qrM,qry,qrx,qrp,qrq,qrA,qrN,qrz,qru,qrS,qsz,qjE,
 qbm,List.replicate_succ,List.replicate_zero,List.map_cons,List.map_nil,Option.join_some,rIn,List.append_nil,List.cons_append,List.nil_append,List.getElem?_cons_zero,List.getElem?_cons_succ,List.set_cons_zero,List.set_cons_succ,Option.some.injEq,List.cons.injEq,V.int.injEq,V.bl.injEq,V.ref.injEq,V.ty.injEq,V.str.injEq,and_true,true_and,exists_eq_left,exists_eq_left',exists_and_left,exists_eq',exists_eq,reduceCtorEq,false_and,exists_false,or_false,false_or,decide_eq_true_eq,Bool.not_eq_true',Bool.not_eq_eq_eq_not,Bool.not_true,decide_eq_false_iff_not])
namespace Zk52
set_option maxHeartbeats 4000000
open PySem L2 PyProof.Rows
def top (i:Nat):Stmt:=PySem.Challenge.pw_allhits_k52_whole_hits_by_text.main.body.getD i (.Pass ⟨0,0,0,0⟩)
structure Txt (mg:Str→Option Value):Prop where
 n_isinstance:mg "isinstance" = none
 n_int:mg "int" = none
 n_bool:mg "bool" = none
 n_len:mg "len" = none
 n_sum:mg "sum" = none
 n_sorted:mg "sorted" = none
 n_set:mg "set" = none
 n_range:mg "range" = none
 n_list:mg "list" = none
 n_str:mg "str" = none
 n_all:mg "all" = none
 n_reversed:mg "reversed" = none
 n_enumerate:mg "enumerate" = none
 n_zip:mg "zip" = none
 c_MOST_SETS:∃t,mg "MOST_SETS" = some (.int 70 t)
 c_MOST_LETTERS:∃t,mg "MOST_LETTERS" = some (.int 8 t)
 c_MOST_NAMES:∃t,mg "MOST_NAMES" = some (.int 8 t)
 c_NO_SETS:∃t,mg "NO_SETS" = some (.str "none" t)
 c_NO_NAMES:∃t,mg "NO_NAMES" = some (.str "-" t)
 c_MOST_KEPT:∃t,mg "MOST_KEPT" = some (.int 20 t)
section
variable {P:Program} {w:World} {K:W.Frag} {mg:Str→Option Value} {base:Heap}
abbrev qch:Stmt:=top 9
theorem qe1:qan ["thing"] ["thing"] (qad qch):=⟨rfl,rfl,rfl,by decide +kernel,rfl,by decide +kernel,by decide +kernel⟩
/-- the class and the table of the text -/
structure Xt (P:Program) (w:World) (K:W.Frag) (mg:Str→Option Value) (cD aW:Addr):Prop where
 gDesk:mg "Desk" = some (.ref cD)
 cl:Cls K cD
 nw:qdJ K cD "words"
 nk:qdJ K cD "kept"
 gW:mg "WANTED" = some (.ref aW)
 wn:Wnt P w K aW
def qiU:Sp:=sp1 fun x H Q=>∃t,qkf H x=some t∧Q (.bl (ql1 t "int" && !ql1 t "bool")) H
theorem qmg {t:String} (h:t ≠ "int"):(ql1 t "int" && !ql1 t "bool")=false:=by
 have e:(t == "int")=false:=by simpa using h
 unfold ql1
 rw [e]
 cases (t == "bool")<;>rfl
theorem qiG {f:Addr} {fd:FuncData} (F:Fun K "is_whole" "is_whole" qch f fd) (T:Txt mg)  : qaZ P w K mg base CX0 1 f fd ["thing"] qiU:=by
 have sc:=qe1
 refine F.ok qe1 (fun vs H Q E h=>by obtain ⟨_,rfl,_⟩:=h;rfl) (fun cdv A outer s H vs Q E hr h=>?_)
 obtain ⟨x0,rfl,h⟩:=h
 refine ⟨_,(qae (qah (qjy (qaB qco (by rfl) T.n_isinstance PyProof.Rows.boot_isinstance (qaa (pv 0) (qaa (qfl (v := .ty "int") (by rfl) T.n_int PyProof.Rows.boot_int rfl) qac))) (qi9 (qp0 (qaB qco (by rfl) T.n_isinstance PyProof.Rows.boot_isinstance (qaa (pv 0) (qaa (qfl (v := .ty "bool") (by rfl) T.n_bool PyProof.Rows.boot_bool rfl) qac)))))))),?_⟩
 refine rdg (σ':=[some x0]) rfl ?_
 obtain ⟨t,hk,q⟩:=h
 walk_at "rd"
 refine ⟨x0, "int",⟨rfl,rfl⟩,t,hk,by decide,?_⟩
 split
 · rename_i h1
   refine ⟨x0, "bool",⟨rfl,rfl⟩,t,hk,by decide,?_⟩
   rw [h1,Bool.true_and] at q
   exact q
 · rename_i h1
   have h2:ql1 t "int" = false:=by simpa using h1
   rw [h2,Bool.false_and] at q
   exact q
abbrev qbu:Stmt:=top 85
theorem qdR:qan ["_law_script", "_law_amount", "_law_cells_here", "_law_number"] ["_law_script", "_law_amount"] (qad qbu):=⟨rfl,rfl,rfl,by decide +kernel,rfl,by decide +kernel,by decide +kernel⟩
def qgF (K:W.Frag):Sp:=sp2 fun x y H Q=>∃(a:Addr) (ns:List Int) (n:Nat),x = .ref a∧SqL K H a (ns.map V.int)∧ns.length≤63∧y = .int n∧n≤63∧∀(p:Addr) (cs:List Nat) (H':Hp),H p=none→qau H H'→H' p=some (.lst (nV cs))→cs.length=n→Q (.ref p) H'
theorem qhj {f:Addr} {fd:FuncData} (F:Fun K "_law_cells" "_law_cells" qbu f fd) (T:Txt mg)  : qaZ P w K mg base CX0 1 f fd ["_law_script", "_law_amount"] (qgF K):=by
 have sc:=qdR
 refine F.ok qdR (fun vs H Q E h=>by obtain ⟨_,_,rfl,_⟩:=h;rfl) (fun cdv A outer s H vs Q E hr h=>?_)
 obtain ⟨x0,x1,rfl,h⟩:=h
 refine ⟨_,(qab (qed (i:=2) sc.nd rfl rfl (by rfl) (N:=["_law_cell"]) (nt:=1) (caps:=[]) qaF rfl (qaM (qbH (qnP (K:=K) rfl) (pv 0) qcx (qb2 (pv 1)))) (fun _ _ _ _ _=>(qas (i:=0) (show List.Nodup (α:=Str) ["_law_cell"] from by decide +kernel) rfl (Or.inl rfl))) qaJ (fun _ _ _ _ _=>qaY) (fun _ _ _ _ _=>(qaq qbt (pv 0) (qaq qpR qaf qaf))))
   (qab (qax (i:=3) sc.nd rfl (Or.inl rfl) (qaq qcJ qaf (qaq qbt (qaB (qkx (K:=K) rfl rfl) (by rfl) T.n_sum PyProof.Rows.boot_sum (qaa (pv 2) qac)) qaf)))
   (qab (qm5 PassesOwn.never (qaj qoA (qaB (qaN (K:=K) rfl) (by rfl) T.n_len PySem.boot_len (qaa (pv 2) qac)) (pv 1) (qao _)) (qab (qax (i:=3) sc.nd rfl (Or.inl rfl) (qaq qbt (qaq qcJ (qaq qcJ (qaq qgp (pv 3) (pv 3)) (qaq qgp qaf (qaB (qaN (K:=K) rfl) (by rfl) T.n_len PySem.boot_len (qaa (pv 2) qac)))) qaf) qaf))
   (qae (qdb (qbp PySem.F.plainAttrs_list PySem.F.slot_list_append PySem.F.type_list_append qcj (pv 2) (qaa (pv 3) qac))))))
   (qae (qah (pv 2)))))),?_⟩
 refine rdg (σ':=[some x0,some x1,none,none]) rfl ?_
 obtain ⟨a,ns,n,rfl,hS,hl,rfl,hn,q⟩:=h
 walk_at "rd"
 refine ⟨a,_,rfl,hS,fun p1 hp1=>?_⟩
 rw [qjc,←List.map_take]
 have ln:(ns.take n).length≤n:=by rw [List.length_take];omega
 generalize ns.take n=ks at ln ⊢
 generalize g1:upd H p1 _=G1
 have a1:=qaw g1
 have t1:=qar g1 hp1
 refine ⟨p1,rfl,⟨_,SqL.of a1⟩,?_⟩
 refine qk0 (fs:=ks.map V.int) (fun _=>true) (fun v=>match v with | .int i => .int ((i%10^40).toNat:Nat) | _ => .non) (SqL.of a1) (by rw [List.length_map];omega) (fun x hx H1 sm R R' r1 r2=>?_) fun G2 p2 t2 hp2=>?_
 · obtain ⟨z,_,rfl⟩:=List.mem_map.mp hx
   (try walk_at "rd")
   refine ⟨qaW (by decide) (by decide) (by decide) (by decide),by decide,?_⟩
   have e:z%10^Int.toNat 40=(((z%10^40).toNat:Nat):Int):=by
     have:=Int.emod_nonneg z (show (10:Int)^40≠0 by decide)
     rw [Int.toNat_of_nonneg this]
     rfl
   rw [e]
   exact r1 rfl _ (qau.refl _)
 have e:((ks.map V.int).filter fun _=>true).map (fun v=>match v with | .int i=>V.int ((i%10^40).toNat:Nat) | _ => .non)=nV (ks.map fun i=>(i%10^40).toNat):=by
   rw [List.filter_eq_self.mpr fun _ _=>rfl,nV,nI,List.map_map,List.map_map,List.map_map]
   rfl
 rw [e]
 have lc:(ks.map fun i=>(i%10^40).toNat).length≤n:=by rw [List.length_map];exact ln
 generalize ks.map (fun i=>(i%10^40).toNat)=cs at lc ⊢
 generalize g2:upd G2 p2 _=G3
 have a2:=qaw g2
 have n2:=qaD (t1.trans t2) hp2
 have t3:=(t1.trans t2).trans (qar g2 hp2)
 refine ⟨p2,rfl,nI cs,SqL.of a2,by decide,?_⟩
 have z0:=Int.emod_nonneg (nI cs).sum (show (2147483647:Int)≠0 by decide)
 have z1:=Int.emod_lt_of_pos (nI cs).sum (show (0:Int)<2147483647 by decide)
 refine qqS (fun k σ H4=>∃(cs:List Nat) (z:Int),σ=[some (.ref a),some (.int n),some (.ref p2),some (.int z)]∧0≤z∧z≤2147483647∧H4=upd G3 p2 (.lst (nV cs))∧cs.length+k=n) (n-cs.length) ⟨cs,_,rfl,by omega,by omega,qgP a2,by omega⟩ ?_
 rintro k σ H4 ⟨cs,z,rfl,h0,h1,rfl,hk⟩ T hT
 (try walk_at "rd")
 refine ⟨_,.inl (SqL.of qai),?_⟩
 rw [qbz]
 refine qqj (fun hc=>hT _ fun N hN=>?_) fun hc=>?_
 · (try walk_at "rd")
   refine ⟨.inl ⟨by omega,by omega⟩,_,.inl (SqL.of qai),?_⟩
   rw [qbz]
   have y0:=Int.emod_nonneg (z*z+48271*(cs.length:Int)+11) (show (2147483647:Int)≠0 by decide)
   have y1:=Int.emod_lt_of_pos (z*z+48271*(cs.length:Int)+11) (show (0:Int)<2147483647 by decide)
   generalize (z*z+48271*(cs.length:Int)+11)%2147483647=y at y0 y1 ⊢
   obtain ⟨w,rfl⟩:=Int.eq_ofNat_of_zero_le y0
   refine ⟨.inl ⟨by decide,by decide⟩,by decide,qcL (by (try rw [qbz]);omega),?_⟩
   rw [qiZ]
   exact hN (k-1) _ _ (by omega) ⟨cs++[w],w,rfl,by omega,by omega,rfl,by simp;omega⟩
 · (try walk_at "rd")
   exact q p2 cs _ n2 (t3.upd n2) qai (by omega)
abbrev qbg:Stmt:=top 86
theorem qdu:qan ["_law_cells_here", "_law_many", "_law_size", "_law_found", "_law_cell", "_law_one"] ["_law_cells_here", "_law_many"] (qad qbg):=⟨rfl,rfl,rfl,by decide +kernel,rfl,by decide +kernel,by decide +kernel⟩
def qgN (K:W.Frag):Sp:=sp2 fun x y H Q=>∃(p:Addr) (cs:List Nat) (m:Nat),x = .ref p∧SqL K H p (nV cs)∧cs.length≤63∧y = .int m∧m≤8 ∧
 ∀(p':Addr) (fs:List Nat) (H':Hp),H p'=none→qau H H'→H' p'=some (.lst (nV fs))→fs.Pairwise (· < ·)→(∀b∈fs,b<2^m)→fs.length≤63→Q (.ref p') H'
theorem qf6 {f:Addr} {fd:FuncData} (F:Fun K "_law_family" "_law_family" qbg f fd) (T:Txt mg)  : qaZ P w K mg base CX0 1 f fd ["_law_cells_here", "_law_many"] (qgN K):=by
 have sc:=qdu
 refine F.ok qdu (fun vs H Q E h=>by obtain ⟨_,_,rfl,_⟩:=h;rfl) (fun cdv A outer s H vs Q E hr h=>?_)
 obtain ⟨x0,x1,rfl,h⟩:=h
 refine ⟨_,(qab (qax (i:=2) sc.nd rfl (Or.inl rfl) (qaq qbx qaf (pv 1)))
   (qab (qax (i:=3) sc.nd rfl (Or.inl rfl) (qa7 qac))
   (qab (qbo PassesOwn.never rfl (qaM (pv 0)) (qas (i:=4) sc.nd rfl (Or.inl rfl)) (qab (qax (i:=5) sc.nd rfl (Or.inl rfl) (qaq qbt (pv 4) (pv 2)))
   (qab (qaA (qaj (qay (K:=K) rfl hr.units0) (qaq qbt (qaq qbG (pv 4) (pv 2)) qaf) qaf (qao _)) (qae (qax (i:=5) sc.nd rfl (Or.inl rfl) (qaq qcz (pv 5) (qaq qbt (qaq qbG (pv 4) (qaq qgp qaf (pv 2))) (pv 2))))) qak)
   (qab (qaA (PW.pt (qdz (qaj (qay (K:=K) rfl hr.units0) (qaq qbt (qaq qbG (pv 4) (pv 2)) qaf) qaf (qao _)) (qcO (qaj qoS (pv 1) qaf (qao _))))) (qae (qax (i:=5) sc.nd rfl (Or.inl rfl) (qaq qi0 (qaq qbx qaf (qaq qbt (pv 4) (pv 1))) (qaq qbx qaf (qaq qbt (qaq qbG (pv 4) qaf) (pv 1)))))) qak)
   (qae (qdb (qbp PySem.F.plainAttrs_list PySem.F.slot_list_append PySem.F.type_list_append qcj (pv 3) (qaa (pv 5) qac))))))))
   (qae (qah (qaB (qej (P:=P) (w:=w) (K:=K) rfl rfl rfl rfl) (by rfl) T.n_sorted PyProof.Rows.boot_sorted (qaa (qck (qfC (P:=P) (w:=w) (K:=K) rfl rfl rfl rfl) (by rfl) T.n_set PyProof.Rows.boot_set (qaa (pv 3) qac)) qac))))))),?_⟩
 refine rdg (σ':=[some x0,some x1,none,none,none,none]) rfl ?_
 obtain ⟨p,cs,m,rfl,hq,hl,rfl,hm,q⟩:=h
 walk_at "rd"
 have pp:=Nat.two_pow_pos m
 have p8:2^m≤256:=Nat.pow_le_pow_right (n:=2) (by decide) hm
 have big:(256:Int)*3<2^200:=by decide
 rw [qa5]
 refine ⟨qaW (by omega) (by omega) (by decide) (by decide),qaC (by simp),fun p0 hp0=>?_⟩
 generalize g0:upd H p0 _=G0
 have a0:=qaw g0
 have t0:=qar g0 hp0
 refine ⟨⟨_,t0.seq hq⟩,?_⟩
 refine qfQ (fs:=cs) (fun i σ H3=>∃v1 v2 fs,σ=[some (.ref p),some (.int m),some (.int (2^m:Nat)),some (.ref p0),v1,v2]∧H3=upd G0 p0 (.lst (nV fs))∧fs.length=i∧∀b∈fs,b<2^m) ⟨none,none,[],rfl,qgP a0,rfl,fun b hb=>by cases hb⟩ ?_ ?_ ?_
 · rintro i σ H3 hi ⟨v1,v2,fs,rfl,rfl,_⟩
   exact (t0.upd hp0).seq hq
 · rintro i c σ H3 hc ⟨v1,v2,fs,rfl,rfl,hlen,hb⟩ N0 hN0
   have hi:=(List.getElem?_eq_some_iff.mp hc).1
   (try walk_at "rd")
   have e1:(c:Int)%((2^m:Nat):Int)=((c%2^m:Nat):Int):=rfl
   have w1:c%2^m<2^m:=Nat.mod_lt _ pp
   rw [e1]
   generalize c%2^m=one at w1 ⊢
   refine ⟨by omega,?_⟩
   refine qk2 (fun σ' H2=>∃b:Nat,b<2^m∧σ'=[some (.ref p),some (.int m),some (.int (2^m:Nat)),some (.ref p0),some (.int (c:Nat)),some (.int (b:Nat))]∧H2=upd G0 p0 (.lst (nV fs))) ?_ fun N hN=>?_
   rotate_left
   · (try walk_at "rd")
     refine ⟨⟨by omega,by omega⟩,by decide,qqj (fun h1=>?_) fun h1=>hN _ _ ⟨one,w1,rfl,rfl⟩⟩
     have e3:(c:Int)/(3*((2^m:Nat):Int))%((2^m:Nat):Int)=((c/(3*2^m)%2^m:Nat):Int):=by
       rw [show (3:Int)*((2^m:Nat):Int)=((3*2^m:Nat):Int) by omega]
       rfl
     rw [e3,qb3]
     exact ⟨.inl ⟨by decide,by decide⟩,⟨by omega,by omega⟩,by omega,hN _ _ ⟨_,Nat.lt_of_le_of_lt Nat.and_le_left w1,rfl,rfl⟩⟩
   rintro σ' H2 ⟨one,w1,rfl,rfl⟩
   refine qk2 (fun σ' H2=>∃b:Nat,b<2^m∧σ'=[some (.ref p),some (.int m),some (.int (2^m:Nat)),some (.ref p0),some (.int (c:Nat)),some (.int (b:Nat))]∧H2=upd G0 p0 (.lst (nV fs))) ?_ fun N hN=>?_
   rotate_left
   · (try walk_at "rd")
     refine ⟨⟨by omega,by omega⟩,by decide,qqj (fun h1=>qqj (fun h2=>?_) fun h2=>hN _ _ ⟨one,w1,rfl,rfl⟩) fun h1=>hN _ _ ⟨one,w1,rfl,rfl⟩⟩
     have m0:0<m:=by omega
     have e4:(c:Int)%(m:Int)=((c%m:Nat):Int):=rfl
     have e5:(c:Int)/8%(m:Int)=((c/8%m:Nat):Int):=rfl
     have w4:c%m<m:=Nat.mod_lt _ m0
     have w5:c/8%m<m:=Nat.mod_lt _ m0
     rw [e4,e5,qa5,qa5,qfg]
     refine ⟨by omega,qaW (by omega) (by omega) (by decide) (by decide),⟨by decide,by decide⟩,by omega,qaW (by omega) (by omega) (by decide) (by decide),hN _ _ ⟨_,?_,rfl,rfl⟩⟩
     exact Nat.or_lt_two_pow (Nat.pow_lt_pow_right (by decide) w4) (Nat.pow_lt_pow_right (by decide) w5)
   rintro σ' H2 ⟨one,w1,rfl,rfl⟩
   (try walk_at "rd")
   refine ⟨qcL (by rw [qbz];omega),hN0 _ _ ⟨_,_,fs++[one],rfl,by rw [qiZ],by simp [hlen],fun b hb'=>?_⟩⟩
   rcases List.mem_append.mp hb' with z | z
   · exact hb b z
   · rw [show b=one by simpa using z];exact w1
 · rintro σ H3 ⟨v1,v2,fs,rfl,rfl,hlen,hb⟩
   (try walk_at "rd")
   have t1:qau H (upd G0 p0 (.lst (nV fs))):=t0.upd hp0
   refine ⟨p0,_,rfl,SqL.of qai,by simp;omega,fun p6 hp6=>?_⟩
   generalize g6:upd _ p6 _=G6
   have a6:=qaw g6
   have t6:=t1.trans (qar g6 hp6)
   refine ⟨p6,_,rfl,.inr a6,Nat.le_trans (qea _) (by simp;omega),fun p7 ms hp7 m1 m2=>?_⟩
   rw [qfP m1 m2]
   exact q p7 (sd fs) _ (qaD t6 hp7) (t6.trans (qau.new hp7)) qai (qiK fs) (fun b hb2=>hb b (qjl.mp hb2)) (qo1 fs (by omega))
abbrev qbw:Stmt:=top 87
theorem qd6:qan ["_law_script", "_law_bound", "_law_cells_here", "_law_many", "_law_amount"] ["_law_script", "_law_bound"] (qad qbw):=⟨rfl,rfl,rfl,by decide +kernel,rfl,by decide +kernel,by decide +kernel⟩
def qi2 (K:W.Frag):Sp:=sp2 fun x y H Q=>∃(a:Addr) (ns:List Int) (n:Nat),x = .ref a∧SqL K H a (ns.map V.int)∧ns.length≤63∧y = .int n∧n≤8 ∧
 ∀(t p:Addr) (m:Nat) (fs:List Nat) (H':Hp),m≤n→H p=none→qau H H'→H' t=some (.tup [.int m,.ref p])→H' p=some (.lst (nV fs))→fs.Pairwise (· < ·)→(∀b∈fs,b<2^m)→fs.length≤63→Q (.ref t) H'
theorem qg1 {f:Addr} {fd:FuncData} (F:Fun K "_law_drawn" "_law_drawn" qbw f fd) (T:Txt mg) {f_19:Addr} {fd_19:FuncData} (C_19:Cal P w K mg base "_law_cells" 1 ["_law_script", "_law_amount"] (qgF K) f_19 fd_19) {f_13:Addr} {fd_13:FuncData} (C_13:Cal P w K mg base "_law_family" 1 ["_law_cells_here", "_law_many"] (qgN K) f_13 fd_13):qaZ P w K mg base CX0 2 f fd ["_law_script", "_law_bound"] (qi2 K):=by
 have sc:=qd6
 refine F.ok qd6 (fun vs H Q E h=>by obtain ⟨_,_,rfl,_⟩:=h;rfl) (fun cdv A outer s H vs Q E hr h=>?_)
 obtain ⟨x0,x1,rfl,h⟩:=h
 refine ⟨_,(qab (qax (i:=2) sc.nd rfl (Or.inl rfl) (qap C_19 hr (by decide) (by rfl) (qaa (pv 0) (qaa qaf qac))))
   (qab (qax (i:=3) sc.nd rfl (Or.inl rfl) (qaq qbt (qaE (qbF (K:=K) rfl) (pv 2) qaf (fun _ _=>rfl)) (qaq qcJ (pv 1) qaf)))
   (qab (qax (i:=4) sc.nd rfl (Or.inl rfl) (qaq qbt (qaE (qbF (K:=K) rfl) (pv 2) qaf (fun _ _=>rfl)) qaf))
   (qab (qaA (qaj (qay (K:=K) rfl hr.units0) (qaq qbt (qaq qbG (qaE (qbF (K:=K) rfl) (pv 2) qaf (fun _ _=>rfl)) qaf) qaf) qaf (qao _)) (qae (qax (i:=4) sc.nd rfl (Or.inl rfl) qaf)) qak)
   (qae (qah (qct (qaa (pv 3) (qaa (qap C_13 hr (by decide) (by rfl) (qaa (qbH (qnP (K:=K) rfl) (pv 2) (qb2 qaf) (qb2 (qaq qcJ qaf (pv 4)))) (qaa (pv 3) qac))) qac))))))))),?_⟩
 refine rdg (σ':=[some x0,some x1,none,none,none]) rfl ?_
 obtain ⟨a,ns,n,rfl,hS,hl,rfl,hn,q⟩:=h
 walk_at "rd"
 refine ⟨_,_,rfl,a,ns,63,rfl,hS,hl,rfl,by omega,fun p cs H1 hp s1 f1 lc=>?_⟩
 have i0:cs[0]?=some cs[0]:=List.getElem?_eq_getElem (by omega)
 have i1:cs[1]?=some cs[1]:=List.getElem?_eq_getElem (by omega)
 generalize cs[0]=c0 at i0
 generalize cs[1]=c1 at i1
 refine qaT (SqL.of f1) (qjX i0) ?_
 (try walk_at "rd")
 have e0:(c0:Int)%((n:Int)+1)=((c0%(n+1):Nat):Int):=rfl
 have w0:c0%(n+1)≤n:=by have:=Nat.mod_lt c0 (show 0<n+1 by omega);omega
 rw [e0]
 generalize c0%(n+1)=m at w0 ⊢
 refine ⟨by omega,qaT (SqL.of f1) (qjX i1) ?_⟩
 (try walk_at "rd")
 have e1:(c1:Int)%9=((c1%9:Nat):Int):=rfl
 rw [e1]
 refine ⟨by decide,?_⟩
 refine qk2 (fun σ' H2=>∃k:Nat,k≤60∧σ'=[some (.ref a),some (.int n),some (.ref p),some (.int m),some (.int (k:Nat))]∧H2=H1) ?_ fun N hN=>?_
 rotate_left
 · (try walk_at "rd")
   refine qaT (SqL.of f1) (qjX i1) ?_
   (try walk_at "rd")
   exact ⟨⟨by decide,by decide⟩,by decide,qqj (fun h1=>hN _ _ ⟨25,by omega,rfl,rfl⟩) fun h1=>hN _ _ ⟨_,by omega,rfl,rfl⟩⟩
 rintro σ' H2 ⟨k,hk,rfl,rfl⟩
 (try walk_at "rd")
 refine ⟨p,_,rfl,SqL.of f1,fun p2 hp2=>?_⟩
 have e3:qkc (nV cs) (some 3) (some (3+(k:Int)))=nV ((cs.drop 3).take k):=by
   rw [show (3:Int)+(k:Int)=((3+k:Nat):Int) by omega,show (3:Int)=((3:Nat):Int) from rfl,qpi,nV,nV,nI,nI,List.map_take,List.map_drop,List.map_take,List.map_drop,show 3+k-3=k by omega]
 rw [e3]
 generalize g2:upd H2 p2 _=G2
 have a2:=qaw g2
 have t2:=s1.trans (qar g2 hp2)
 refine ⟨_,_,rfl,p2,_,m,rfl,SqL.of a2,by rw [List.length_take];omega,rfl,by omega,fun p3 fs G3 hp3 t3 a3 hr hb h63=>?_⟩
 refine ⟨qaC (by simp),fun t ht=>?_⟩
 have n3:=qaD t2 hp3
 exact q t p3 m fs _ w0 n3 ((t2.trans t3).trans (qau.new ht)) qai (qar rfl ht _ _ a3) hr hb h63
abbrev qbA:Stmt:=top 88
theorem qd4:qan ["_law_cell", "_law_many", "_law_letters", "_law_size", "_law_at", "_law_base", "_law_words_here", "_law_stem", "_law_k", "_law_sign"] ["_law_cell", "_law_many"] (qad qbA):=⟨rfl,rfl,rfl,by decide +kernel,rfl,by decide +kernel,by decide +kernel⟩
theorem qnJ {n:Nat} {G:Nat→Str} (hn:n≤8) (h:∀k,k<n→Tx.Wd (G k)) (h1:∀i j,i<j→j<n→G i≠G j) (h2:∀k,k<n→G k ≠ "none"):Tx.Wds ((List.range n).map G):=by
 refine ⟨by simpa using hn,?_,fun w hw=>?_,fun hw=>?_⟩
 · unfold List.Nodup
   rw [List.pairwise_map]
   exact (List.pairwise_lt_range).imp_of_mem fun _ hb hlt=>h1 _ _ hlt (List.mem_range.mp hb)
 · obtain ⟨k,hk,rfl⟩:=List.mem_map.mp hw
   exact h k (List.mem_range.mp hk)
 · obtain ⟨k,hk,e⟩:=List.mem_map.mp hw
   exact h2 k (List.mem_range.mp hk) e
theorem qsi {ys:List Str} (h:∀y∈ys,∃c,y=⟨#[c]⟩∧c≤109):∀c∈Tx.sg (_root_.PySem.Txt.join ("" : Str) ys),c≤109:=fun c hc=>by
 rw [qd7] at hc
 obtain ⟨l,hl,hcl⟩:=List.mem_flatten.mp hc
 obtain ⟨y,hy,rfl⟩:=List.mem_map.mp hl
 obtain ⟨d,rfl,hd⟩:=h y hy
 rw [show c=d from by simpa [Tx.sg] using hcl]
 exact hd
theorem qrk {z:Str} (h:∀c∈Tx.sg z,c≤109):z ≠ "none" := fun e=>by
 have:=h 110 (by rw [e];decide +kernel)
 omega
theorem qr6 {n j:Nat} (h:j<n):ixN n (j:Int)=some j:=by
 unfold ixN
 rw [if_pos (by omega),if_pos (by omega),Int.toNat_natCast]
def one (x:Nat):Str:=⟨#[x]⟩
theorem qgU (l:List Nat):Tx.sg (_root_.PySem.Txt.join ("" : Str) (l.map one))=l:=by
 rw [qd7,List.map_map]
 induction l with
 | nil=>rfl
 | cons x l ih =>
   rw [List.map_cons,List.flatten_cons,ih]
   rfl
def wdN (b:List Nat) (u x k:Nat):Str:=_root_.PySem.Txt.join ("" : Str) ((b.set u (97+(x+3*k)%26)).map one)
theorem qli (b:List Nat) (u x k:Nat):(wdN b u x k).length=b.length:=by
 rw [←Tx.len_sg,wdN,qgU,List.length_set]
def wd3 (c S u:Nat) (z:Str) (k:Nat):Str:=if c/9%3=0 then wdN ((List.range S).map fun j=>97+c/(3*j+7)%26) u (c/64) k else if c/9%3=1 then _root_.PySem.Txt.slice z none (some ((k+1:Nat):Int)) else _root_.PySem.Txt.slice z (some ((7-k:Nat):Int)) none
theorem qol {l:List Nat} {u x:Nat} (hu:u<l.length):((sV (l.map one)).take u++[V.str (one x)])++(sV (l.map one)).drop (u+1)=sV ((l.set u x).map one):=by
 have e:l.set u x=l.take u++x::l.drop (u+1):=List.set_eq_take_append_cons_drop.trans (if_pos hu)
 rw [e]
 unfold sV
 simp only [List.map_take,List.map_drop,List.map_append,List.map_cons,List.append_assoc]
 rfl
theorem qmO {k:Nat} (h:k<8):(Str.ofString "abcdefgh").cps[((k:Nat):Int).toNat]?=some (97+k):=by
 rw [Int.toNat_natCast]
 have:∀k,k<8→(Str.ofString "abcdefgh").cps[k]?=some (97+k):=by decide +kernel
 exact this k h
theorem qqJ {c S u n:Nat} {z:Str} (hn:n≤8) (h1:1≤S) (h8:S≤8) (hu:u<S) (hz:z.length=8) (hzl:∀x∈Tx.sg z,97≤x∧x≤122) (hno:("none" : Str)∉(List.range n).map (wd3 c S u z)):Tx.Wds ((List.range n).map (wd3 c S u z)):=by
 have l1:∀k,k<n→(_root_.PySem.Txt.slice z none (some ((k+1:Nat):Int))).length=k+1:=fun k hk=>qq4 (by omega)
 have l2:∀k,k<n→(_root_.PySem.Txt.slice z (some ((7-k:Nat):Int)) none).length=k+1:=fun k hk=>by
   have:=qnc (z:=z) (i:=7-k) (by omega)
   omega
 refine qnJ hn (fun k hk=>?_) (fun i j hij hj e=>?_) fun k hk e=>hno (List.mem_map.mpr ⟨k,List.mem_range.mpr hk,e⟩)
 · unfold wd3
   split
   · refine ⟨by rw [qli,List.length_map,List.length_range];exact h1,by rw [qli,List.length_map,List.length_range];exact h8,fun x hx=>?_⟩
     rw [wdN,qgU] at hx
     rcases List.mem_or_eq_of_mem_set hx with h | h
     · obtain ⟨j,_,rfl⟩:=List.mem_map.mp h
       have:=Nat.mod_lt (c/(3*j+7)) (show 0<26 by decide)
       omega
     · omega
   · split
     · have:=l1 k hk
       exact ⟨by omega,by omega,qja hzl⟩
     · have:=l2 k hk
       exact ⟨by omega,by omega,qja hzl⟩
 · unfold wd3 at e
   split at e
   · have e:=congrArg Tx.sg e
     rw [wdN,wdN,qgU,qgU] at e
     have e:=congrArg (fun l=>l[u]?) e
     simp only [List.getElem?_set_self (show u<((List.range S).map fun j=>97+c/(3*j+7)%26).length by simpa using hu)] at e
     have e:=Option.some.inj e
     omega
   · split at e
     · have z1:=l1 i (by omega)
       have z2:=l1 j hj
       rw [e] at z1
       omega
     · have z1:=l2 i (by omega)
       have z2:=l2 j hj
       rw [e] at z1
       omega
def qfI (K:W.Frag):Sp:=sp2 fun x y H Q=>∃(c n:Nat),x = .int (c:Nat)∧y = .int (n:Nat)∧n≤8∧∀(p:Addr) (ws:List Str) (H':Hp),H p=none→qau H H'→H' p=some (.lst (sV ws))→Tx.Wds ws→ws.length=n→Q (.ref p) H'
theorem qgR {f:Addr} {fd:FuncData} (F:Fun K "_law_words" "_law_words" qbA f fd) (T:Txt mg)  : qaZ P w K mg base CX0 1 f fd ["_law_cell", "_law_many"] (qfI K):=by
 have sc:=qd4
 refine F.ok qd4 (fun vs H Q E h=>by obtain ⟨_,_,rfl,_⟩:=h;rfl) (fun cdv A outer s H vs Q E hr h=>?_)
 obtain ⟨x0,x1,rfl,h⟩:=h
 refine ⟨_,(qab (qax (i:=2) sc.nd rfl (Or.inr rfl) qag)
   (qab (qax (i:=3) sc.nd rfl (Or.inl rfl) (qaq qcJ qaf (qaq qbt (pv 0) qaf)))
   (qab (qax (i:=4) sc.nd rfl (Or.inl rfl) (qaq qbt (qaq qbG (pv 0) qaf) (pv 3)))
   (qab (qed (i:=5) sc.nd rfl rfl (by rfl) (N:=["_law_k", "_law_letters", "_law_cell"]) (nt:=1) (caps:=[2,0]) qaF rfl (qaO (by rfl) T.n_range (qaa (pv 3) qac)) (fun _ _ _ _ _=>(qas (i:=0) (show List.Nodup (α:=Str) ["_law_k", "_law_letters", "_law_cell"] from by decide +kernel) rfl (Or.inl rfl))) qaJ (fun _ _ _ _ _=>qaY) (fun _ _ _ _ _=>(qcK (pv 1) (qaq qbt (qaq qbG (pv 2) (qaq qcJ (qaq qgp qaf (pv 0)) qaf)) qaf) (fun _ _=>rfl))))
   (qab (qax (i:=6) sc.nd rfl (Or.inl rfl) (qa7 qac))
   (qab (qax (i:=7) sc.nd rfl (Or.inl rfl) (qbp PySem.F.plainAttrs_str PySem.F.slot_str_join PySem.F.type_str_join (qbP (K:=K) rfl) qag (qaa (qaQ (N:=["_law_k", "_law_letters", "_law_cell"]) (nt:=1) (caps:=[2,0]) qaF rfl (qaO (by rfl) T.n_range (qaa qaf qac)) (fun _ _ _ _ _=>(qas (i:=0) (show List.Nodup (α:=Str) ["_law_k", "_law_letters", "_law_cell"] from by decide +kernel) rfl (Or.inl rfl))) qaJ (fun _ _ _ _ _=>qaY) (fun _ _ _ _ _=>(qcK (pv 1) (qaq qbt (qaq qbG (pv 2) (qaq qcJ (qaq qgp qaf (pv 0)) qaf)) qaf) (fun _ _=>rfl)))) qac)))
   (qab (qbo PassesOwn.never rfl (qaO (by rfl) T.n_range (qaa (pv 1) qac)) (qas (i:=8) sc.nd rfl (Or.inl rfl)) (qab (qax (i:=9) sc.nd rfl (Or.inl rfl) (qcK (pv 2) (qaq qbt (qaq qcJ (qaq qbG (pv 0) qaf) (qaq qgp qaf (pv 8))) qaf) (fun _ _=>rfl)))
   (qae (qdb (qbp PySem.F.plainAttrs_list PySem.F.slot_list_append PySem.F.type_list_append qcj (pv 6) (qaa (qaE (qbF (K:=K) rfl) (qa7 (qaa (qbp PySem.F.plainAttrs_str PySem.F.slot_str_join PySem.F.type_str_join (qbP (K:=K) rfl) qag (qaa (qaq (qfc (K:=K) rfl) (qaq (qfc (K:=K) rfl) (qbH (qnP (K:=K) rfl) (pv 5) qcx (qb2 (pv 4))) (qa7 (qaa (pv 9) qac))) (qbH (qnP (K:=K) rfl) (pv 5) (qb2 (qaq qcJ (pv 4) qaf)) qcx)) qac)) (qaa (qbH qnN (pv 7) qcx (qb2 (qaq qcJ (pv 8) qaf))) (qaa (qbH qnN (pv 7) (qb2 (qaq qjq qaf (pv 8))) qcx) qac)))) (qaq qbt (qaq qbG (pv 0) qaf) qaf) (fun _ _=>rfl)) qac))))))
   (qab (qaA (qaj (qnQ (K:=K) rfl) qag (pv 6) (by with_unfolding_all rfl)) (qae (qah (qaQ (N:=["_law_k"]) (nt:=1) (caps:=[]) qaF rfl (qaO (by rfl) T.n_range (qaa (pv 1) qac)) (fun _ _ _ _ _=>(qas (i:=0) (show List.Nodup (α:=Str) ["_law_k"] from by decide +kernel) rfl (Or.inl rfl))) qaJ (fun _ _ _ _ _=>qaY) (fun _ _ _ _ _=>(qcK qag (pv 0) (fun _ _=>rfl)))))) qak)
   (qae (qah (pv 6))))))))))),?_⟩
 refine rdg (σ':=[some x0,some x1,none,none,none,none,none,none,none,none]) rfl ?_
 obtain ⟨c,n,rfl,rfl,hn,q⟩:=h
 walk_at "rd"
 have hs:=Nat.mod_lt c (show 0<8 by decide)
 have es:(1:Int)+((c:Nat):Int)%8=((1+c%8:Nat):Int):=by omega
 have hS1:1≤1+c%8:=by omega
 have hS8:1+c%8≤8:=by omega
 rw [es]
 generalize 1+c%8=S at hS1 hS8 ⊢
 rw [show ((c:Nat):Int)/8%((S:Nat):Int)=((c/8%S:Nat):Int) from rfl]
 have ua:=Nat.mod_lt (c/8) (show 0<S by omega)
 generalize c/8%S=u at ua ⊢
 refine ⟨by decide,⟨by decide,by decide⟩,by omega,by omega,by omega,?_⟩
 rw [Int.toNat_natCast]
 have abcL:(Str.ofString "abcdefghijklmnopqrstuvwxyz").length=26:=qn4
 have lt26:∀x:Nat,x%26<26:=fun x=>Nat.mod_lt x (by decide)
 refine qdy (fun _=>true) (fun j => .str (one (97+c/(3*j+7)%26))) (by omega) (fun j hj H1 s1 R R' r1 r2=>?_) fun H1 p1 s1 hp1=>?_
 · (try walk_at "rd")
   have e:=lt26 (c/(3*j+7))
   rw [show (3:Int)*((j:Nat):Int)+7=((3*j+7:Nat):Int) by omega,show ((c:Nat):Int)/((3*j+7:Nat):Int)%26=((c/(3*j+7)%26:Nat):Int) from rfl]
   refine ⟨.inl ⟨by decide,by decide⟩,⟨by omega,by omega⟩,by decide,by omega,by omega,by omega,_,qlc _ (by omega),?_⟩
   exact r1 rfl _ (qau.refl _)
 rw [List.filter_eq_self.mpr fun _ _=>rfl,qeD]
 generalize g1:upd H1 p1 _=G1
 have a1:=qaw g1
 have t1:=s1.trans (qar g1 hp1)
 refine ⟨qaC (by simp),fun p hp=>⟨rfl,by decide,by decide,?_⟩⟩
 generalize g2:upd G1 p _=G2
 have a2:=qaw g2
 have t2:=t1.trans (qar g2 hp)
 have a1:=qar g2 hp _ _ a1
 have hp0:H p=none:=qaD t1 hp
 have n1:p1≠p:=qba (by assumption) hp
 rw [show Int.toNat 8=8 from rfl]
 refine qdy (fun _=>true) (fun k => .str (one (97+c/(5*k+11)%26))) (by decide) (fun j hj H3 s3 R R' r1 r2=>?_) fun H3 p3 s3 hp3=>?_
 · (try walk_at "rd")
   have e:=lt26 (c/(5*j+11))
   rw [show (5:Int)*((j:Nat):Int)+11=((5*j+11:Nat):Int) by omega,show ((c:Nat):Int)/((5*j+11:Nat):Int)%26=((c/(5*j+11)%26:Nat):Int) from rfl]
   refine ⟨.inl ⟨by decide,by decide⟩,⟨by omega,by omega⟩,by decide,by omega,by omega,by omega,_,qlc _ (by omega),?_⟩
   exact r1 rfl _ (qau.refl _)
 rw [List.filter_eq_self.mpr fun _ _=>rfl,qeD]
 generalize g3:upd H3 p3 _=G3
 have a3:=qaw g3
 have s3':=s3.trans (qar g3 hp3)
 have t3:=t2.trans s3'
 have a1:=s3' _ _ a1
 have a2:=s3' _ _ a2
 refine ⟨_,p3,_,rfl,rfl,SqL.of a3,qa2 (M:=1) (N:=8) (fun y hy=>?_) (by simp) (by decide +kernel) (by decide),?_⟩
 · obtain ⟨k,_,rfl⟩:=List.mem_map.mp hy
   exact Nat.le_refl 1
 obtain ⟨hz8,hzl⟩:=qnZ (ys:=(List.range 8).map fun k:Nat=>one (97+c/(5*k+11)%26)) fun y hy=>by
   obtain ⟨k,_,rfl⟩:=List.mem_map.mp hy
   have:=lt26 (c/(5*k+11))
   exact ⟨_,rfl,by omega,by omega⟩
 rw [List.length_map,List.length_range] at hz8
 generalize _root_.PySem.Txt.join (Str.ofString "") ((List.range 8).map fun k:Nat=>one (97+c/(5*k+11)%26))=z at hz8 hzl ⊢
 have zb:z.length≤100000:=by omega
 refine ⟨by omega,by omega,?_⟩
 rw [Int.toNat_natCast]
 refine qgf (fun i σ H'=>∃(v8 v9:Option V),σ=[some (.int (c:Nat)),some (.int (n:Nat)),some (.str (Str.ofString "abcdefghijklmnopqrstuvwxyz")),some (.int (S:Nat)),some (.int (u:Nat)),some (.ref p1),some (.ref p),some (.str z),v8,v9]∧qau H H'∧H' p1=some (.lst (sV ((List.range S).map fun j=>one (97+c/(3*j+7)%26))))∧H' p=some (.lst (sV ((List.range i).map (wd3 c S u z))))) ⟨none,none,rfl,t3,a1,a2⟩ ?_ ?_
 · rintro i σ H4 hi ⟨v8,v9,rfl,s4,b1,b2⟩ N hN
   (try walk_at "rd")
   have e26:=lt26 (c/64+3*i)
   rw [show ((c:Nat):Int)/64=((c/64:Nat):Int) from rfl,show (((c/64:Nat):Int)+3*((i:Nat):Int))%26=(((c/64+3*i)%26:Nat):Int) by omega]
   have h9:p1≠p∧H p=none:=⟨n1,hp0⟩
   refine ⟨⟨by decide,by decide⟩,.inl ⟨by decide,by decide⟩,by decide,by omega,by omega,by omega,_,qlc _ (by omega),qb5 b2,rfl,?_⟩
   rw [Int.toNat_natCast]
   refine ⟨p1,_,rfl,SqL.of b1,fun q1 hq1=>⟨qaC (by simp),fun q2 hq2=>?_⟩⟩
   rw [qjc] at hq2 ⊢
   generalize k1:upd H4 q1 _=I1 at hq2 ⊢
   have c1:=qaw k1
   have w1:=qar k1 hq1
   generalize k2:upd I1 q2 _=I2
   have c2:=qaw k2
   have w2:=w1.trans (qar k2 hq2)
   have c1:=qar k2 hq2 _ _ c1
   refine ⟨q1,q2,_,_,rfl,rfl,SqL.of c1,SqL.of c2,qaC (by rw [List.length_take,qaS,List.length_map,List.length_range,List.length_singleton];omega),fun q3 hq3=>?_⟩
   generalize k3:upd I2 q3 _=I3
   have c3:=qaw k3
   have w3:=w2.trans (qar k3 hq3)
   refine ⟨p1,_,rfl,SqL.of (w3 _ _ b1),fun q4 hq4=>?_⟩
   rw [show ((u:Nat):Int)+1=((u+1:Nat):Int) from rfl,qde]
   generalize k4:upd I3 q4 _=I4
   have c4:=qaw k4
   have c3:=qar k4 hq4 _ _ c3
   have w4:=w3.trans (qar k4 hq4)
   refine ⟨q3,q4,_,_,rfl,rfl,SqL.of c3,SqL.of c4,qaC (by rw [List.length_append,List.length_take,List.length_drop,qaS,List.length_map,List.length_range,List.length_singleton];omega),fun q5 hq5=>?_⟩
   generalize k5:upd I4 q5 _=I5
   have c5:=qaw k5
   have w5:=w4.trans (qar k5 hq5)
   rw [show ((sV ((List.range S).map fun j=>one (97+c/(3*j+7)%26))).take u++[V.str ⟨#[97+(c/64+3*i)%26]⟩])++(sV ((List.range S).map fun j=>one (97+c/(3*j+7)%26))).drop (u+1)=sV ((((List.range S).map fun j=>97+c/(3*j+7)%26).set u (97+(c/64+3*i)%26)).map one) from by have:=qol (l:=(List.range S).map fun j=>97+c/(3*j+7)%26) (u:=u) (x:=97+(c/64+3*i)%26) (by simpa using ua);rw [List.map_map] at this;exact this] at c5
   refine ⟨_,q5,_,rfl,rfl,SqL.of c5,qa2 (M:=1) (N:=8) (fun y hy=>?_) (by rw [List.length_map,List.length_set,List.length_map,List.length_range];exact hS8) (by decide +kernel) (by decide),?_⟩
   · obtain ⟨k,_,rfl⟩:=List.mem_map.mp hy
     exact Nat.le_refl 1
   rw [show (7:Int)-((i:Nat):Int)=((7-i:Nat):Int) by omega,show ((c:Nat):Int)/9%3=((c/9%3:Nat):Int) from rfl]
   refine ⟨z,rfl,zb,z,rfl,zb,qaC (by simp),fun q6 hq6=>⟨⟨by decide,by decide⟩,by decide,?_⟩⟩
   generalize k6:upd I5 q6 _=I6
   have c6:=qaw k6
   have w6:=w5.trans (qar k6 hq6)
   refine qaT (v := .str (wd3 c S u z i)) (SqL.of c6) ?_ ?_
   · have e3:=Nat.mod_lt (c/9) (show 0<3 by decide)
     unfold wd3
     generalize c/9%3=w at e3
     match w,e3 with
     | 0,_=>exact qaL rfl
     | 1,_=>exact qaL rfl
     | 2,_=>exact qaL rfl
   refine ⟨p,_,_,rfl,rfl,w6 _ _ b2,qcL (by rw [qaS,List.length_map,List.length_range];omega),hN _ _ ⟨_,_,rfl,(s4.trans w6).upd hp0,by rw [qaz n1];exact w6 _ _ b1,?_⟩⟩
   rw [qai,List.range_succ,List.map_append]
   show _=some (HO.lst (List.map V.str (_++_)))
   rw [List.map_append]
   rfl
 · rintro σ H4 ⟨v8,v9,rfl,s4,b1,b2⟩
   (try walk_at "rd")
   refine ⟨_,.inl (SqL.of b2),rfl,qc8 _,?_⟩
   rw [qpO]
   by_cases hno:("none" : Str)∈(List.range n).map (wd3 c S u z)
   · rw [decide_eq_true hno]
     refine qeT ⟨by omega,by omega,?_⟩
     rw [Int.toNat_natCast]
     have e8:(Str.ofString "abcdefgh").length=8:=by decide +kernel
     refine qdy (fun _=>true) (fun k => .str (one (97+k))) (by omega) (fun k hk H5 s5 R R' r1 r2=>?_) fun H5 p5 s5 hp5=>?_
     · (try walk_at "rd")
       refine ⟨by omega,by omega,by omega,_,qmO (by omega),r1 rfl _ (qau.refl _)⟩
     rw [List.filter_eq_self.mpr fun _ _=>rfl,qeD]
     refine q p5 _ _ (qaD (s4.trans s5) hp5) ((s4.trans s5).trans (qau.new hp5)) qai (qnJ hn (fun k hk=>⟨Nat.le_refl 1,by show 1≤8;decide,fun x hx=>?_⟩) (fun i j hij hj e=>?_) fun k hk e=>?_) (by simp)
     · rw [show x=97+k from by simpa [Tx.sg,one] using hx]
       omega
     · have:=congrArg Tx.sg e
       rw [show Tx.sg (one (97+i))=[97+i] from rfl,show Tx.sg (one (97+j))=[97+j] from rfl] at this
       have:=(List.cons.inj this).1
       omega
     · have l4:("none" : Str).length=4:=by decide +kernel
       rw [←e] at l4
       exact absurd l4 (by show ¬1=4;decide)
   · rw [decide_eq_false hno]
     exact qcp (q p _ _ hp0 s4 b2 (qqJ hn hS1 hS8 ua hz8 hzl hno) (by simp))
abbrev qa3:Stmt:=top 89
theorem qcR:qan ["_law_words_here", "_law_one", "_law_some"] ["_law_words_here", "_law_one"] (qad qa3):=⟨rfl,rfl,rfl,by decide +kernel,rfl,by decide +kernel,by decide +kernel⟩
def qf3 (K:W.Frag):Sp:=sp2 fun x y H Q=>∃(p:Addr) (ws:List Str) (a:Nat),x = .ref p∧H p=some (.lst (sV ws))∧Tx.Wds ws∧y = .int (a:Nat)∧a<2^ws.length∧∀H',qau H H'→Q (.str (Tx.sT ws a)) H'
theorem qeS {f:Addr} {fd:FuncData} (F:Fun K "_law_set_text" "_law_set_text" qa3 f fd) (T:Txt mg)  : qaZ P w K mg base CX0 1 f fd ["_law_words_here", "_law_one"] (qf3 K):=by
 have sc:=qcR
 refine F.ok qcR (fun vs H Q E h=>by obtain ⟨_,_,rfl,_⟩:=h;rfl) (fun cdv A outer s H vs Q E hr h=>?_)
 obtain ⟨x0,x1,rfl,h⟩:=h
 refine ⟨_,(qab (qed (i:=2) sc.nd rfl rfl (by rfl) (N:=["_law_k", "_law_words_here", "_law_one"]) (nt:=1) (caps:=[0,1]) qaF rfl (qaO (by rfl) T.n_range (qaa (qaB (qaN (K:=K) rfl) (by rfl) T.n_len PySem.boot_len (qaa (pv 0) qac)) qac)) (fun _ _ _ _ _=>(qas (i:=0) (show List.Nodup (α:=Str) ["_law_k", "_law_words_here", "_law_one"] from by decide +kernel) rfl (Or.inl rfl))) qaJ (fun _ _ _ _ _=>(qcv (qaj (qay (K:=K) rfl hr.units0) (qaq qcz (qaq qkq (pv 2) (pv 0)) qaf) qaf (qao _)))) (fun _ _ _ _ _=>(qaE (qbF (K:=K) rfl) (pv 1) (pv 0) (fun _ _=>rfl))))
   (qab (qaA (qaj (qay (K:=K) rfl hr.units0) (pv 2) (qa7 qac) (qao _)) (qae (qah qag)) qak)
   (qae (qah (qbp PySem.F.plainAttrs_str PySem.F.slot_str_join PySem.F.type_str_join (qbP (K:=K) rfl) qag (qaa (pv 2) qac)))))),?_⟩
 refine rdg (σ':=[some x0,some x1,none]) rfl ?_
 obtain ⟨p,ws,a,rfl,f1,hw,rfl,ha,q⟩:=h
 walk_at "rd"
 refine ⟨_,.inl (SqL.of f1),?_⟩
 have h8:=hw.few
 rw [qaS]
 refine ⟨by omega,by omega,?_⟩
 rw [Int.toNat_natCast]
 refine qdy (fun k=>a.testBit k) (fun k => .str (ws.getD k Str.empty)) (by omega) (fun k hk H3 s3 R R' r1 r2=>?_) fun H3 p3 s3 hp3=>?_
 · (try walk_at "rd")
   refine ⟨by omega,?_⟩
   cases b:a.testBit k with
   | false =>
     rw [if_neg (by rw [qfd,b];decide)]
     exact r2 b _ (qau.refl _)
   | true =>
     rw [if_pos (by rw [qfd,b])]
     have ek:ws[k]?=some (ws.getD k Str.empty):=by rw [List.getD_eq_getElem?_getD,List.getElem?_eq_getElem hk];rfl
     exact qaT (SqL.of (s3 _ _ f1)) (qc3 ek) (r1 b _ (qau.refl _))
 rw [show ((List.range ws.length).filter fun k=>a.testBit k).map (fun k=>V.str (ws.getD k Str.empty))=sV (Tx.wds ws a) from by unfold Tx.wds;rw [←qnE hw.few ha];exact qeD _ _]
 have lw:(Tx.wds ws a).length≤8:=by
   unfold Tx.wds
   rw [List.length_map]
   exact Nat.le_trans (List.length_filter_le _ _) (by simp)
 have ly:∀y∈Tx.wds ws a,y.length≤8:=fun y hy=>(hw.wd y (Tx.wds_mem hw ha hy)).2.1
 generalize g3:upd H3 p3 _=G3
 have a3:=qaw g3
 have s3:=s3.trans (qar g3 hp3)
 (try walk_at "rd")
 refine ⟨qaC (by simp),fun p4 hp4=>?_⟩
 generalize g4:upd G3 p4 _=G4
 have a4:=qaw g4
 have t4:=qar g4 hp4
 have a3:=t4 _ _ a3
 have s4:=s3.trans t4
 refine qg5 (SqL.of a3) (SqL.of a4) (qc8 _) rfl ?_
 by_cases h0:a=0
 · have e:Tx.wds ws a=[]:=by rw [h0];rfl
   rw [show Tx.sT ws a = "-" from if_pos h0] at q
   rw [e]
   exact ⟨true,rfl,qeT (q _ s4)⟩
 · have ne:=Tx.wds_ne hw ha h0
   rw [show Tx.sT ws a=_root_.PySem.Txt.join "+" (Tx.wds ws a) from if_neg h0] at q
   have e:qgh (sV (Tx.wds ws a)) []=false:=by
     rw [show ([]:List V)=sV [] from rfl,qhS]
     exact decide_eq_false ne
   rw [e]
   exact ⟨false,rfl,qcp ⟨rfl,_,p3,_,rfl,rfl,SqL.of a3,qa2 (M:=8) (N:=8) ly lw (by rw [Tx.lit_plus];decide) (by decide),q _ s4⟩⟩
abbrev qbR:Stmt:=top 90
theorem qeA:qan ["_law_words_here", "_law_family_here"] ["_law_words_here", "_law_family_here"] (qad qbR):=⟨rfl,rfl,rfl,by decide +kernel,rfl,by decide +kernel,by decide +kernel⟩
def qiQ (K:W.Frag):Sp:=sp2 fun x y H Q=>∃(p p2:Addr) (ws:List Str) (fs:List Nat),x = .ref p∧H p=some (.lst (sV ws))∧Tx.Wds ws∧y = .ref p2∧H p2=some (.lst (nV fs))∧(∀b∈fs,b<2^ws.length)∧fs.length≤70∧∀H',qau H H'→Q (.str (Tx.fT ws fs)) H'
theorem qhV {f:Addr} {fd:FuncData} (F:Fun K "_law_text" "_law_text" qbR f fd) (T:Txt mg) {f_06:Addr} {fd_06:FuncData} (C_06:Cal P w K mg base "_law_set_text" 1 ["_law_words_here", "_law_one"] (qf3 K) f_06 fd_06):qaZ P w K mg base CX0 2 f fd ["_law_words_here", "_law_family_here"] (qiQ K):=by
 have sc:=qeA
 refine F.ok qeA (fun vs H Q E h=>by obtain ⟨_,_,rfl,_⟩:=h;rfl) (fun cdv A outer s H vs Q E hr h=>?_)
 obtain ⟨x0,x1,rfl,h⟩:=h
 refine ⟨_,(qab (qaA (qaj (qay (K:=K) rfl hr.units0) (pv 1) (qa7 qac) (qao _)) (qae (qah qag)) qak)
   (qae (qah (qbp PySem.F.plainAttrs_str PySem.F.slot_str_join PySem.F.type_str_join (qbP (K:=K) rfl) qag (qaa (qaQ (N:=["_law_one", "_law_words_here"]) (nt:=1) (caps:=[0]) qaF rfl (qaM (pv 1)) (fun _ _ _ _ _=>(qas (i:=0) (show List.Nodup (α:=Str) ["_law_one", "_law_words_here"] from by decide +kernel) rfl (Or.inl rfl))) qaJ (fun _ _ _ _ _=>qaY) (fun _ _ _ _ _=>(qap C_06 hr (by decide) (by rfl) (qaa (pv 1) (qaa (pv 0) qac))))) qac))))),?_⟩
 refine rdg (σ':=[some x0,some x1]) rfl ?_
 obtain ⟨p,p2,ws,fs,rfl,f1,hw,rfl,f2,hb,hl,q⟩:=h
 walk_at "rd"
 refine ⟨qaC (by simp),fun p4 hp4=>?_⟩
 generalize g4:upd H p4 _=G4
 have a4:=qaw g4
 have t4:=qar g4 hp4
 have f2:=t4 _ _ f2
 have f1:=t4 _ _ f1
 refine qg5 (SqL.of f2) (SqL.of a4) (qc4 _) rfl ?_
 by_cases h0:fs=[]
 · rw [show Tx.fT ws fs = "none" from if_pos h0] at q
   subst h0
   exact ⟨true,rfl,qeT (q _ t4)⟩
 rw [show Tx.fT ws fs=_root_.PySem.Txt.join " " (fs.map (Tx.sT ws)) from if_neg h0] at q
 have e:qgh (nV fs) []=false:=by
   rw [show ([]:List V)=nV [] from rfl,qgk]
   exact decide_eq_false h0
 rw [e]
 refine ⟨false,rfl,qcp ⟨rfl,⟨_,SqL.of f2⟩,qcX (fs:=fs) (fun _=>true) (fun b => .str (Tx.sT ws b)) (SqL.of f2) (by omega) (fun b hb' H2 s2 R R' r1 r2=>?_) fun H2 p3 s2 hp3=>?_⟩⟩
 · (try walk_at "rd")
   exact ⟨_,_,rfl,p,ws,b,rfl,s2 _ _ f1,hw,rfl,hb b hb',fun H3 s3=>r1 rfl _ s3⟩
 · rw [List.filter_eq_self.mpr fun _ _=>rfl,qeD]
   refine ⟨_,p3,fs.map (Tx.sT ws),rfl,rfl,SqL.of qai,qa2 (M:=72) (N:=70) (fun y hy=>?_) (by rw [List.length_map];exact hl) (by rw [Tx.lit_space];decide) (by decide),q _ ((t4.trans s2).trans (qau.new hp3))⟩
   obtain ⟨b,hb',rfl⟩:=List.mem_map.mp hy
   exact Tx.sT_len hw (hb b hb')
abbrev qcd:Stmt:=top 91
theorem qfn:qan ["_law_words_here", "_law_text_here", "_law_one", "_law_word"] ["_law_words_here", "_law_text_here"] (qad qcd):=⟨rfl,rfl,rfl,by decide +kernel,rfl,by decide +kernel,by decide +kernel⟩
theorem qdL {fs:List Nat} {i a:Nat} (h:fs[i]?=some a):fs.take (i+1)=fs.take i++[a]:=by rw [List.take_add_one,h];rfl
theorem qgM (L:List Nat) (a:Nat):Fam.ofN (L++[a])=Fam.ofN L|||2^a:=by unfold Fam.ofN;rw [List.foldl_append];rfl
def qjk (K:W.Frag):Sp:=sp2 fun x y H Q=>∃(p:Addr) (ws:List Str) (a:Nat),x = .ref p∧H p=some (.lst (sV ws))∧Tx.Wds ws∧y = .str (Tx.sT ws a)∧a<2^ws.length∧∀H',qau H H'→Q (.int (a:Nat)) H'
theorem qiE {f:Addr} {fd:FuncData} (F:Fun K "_law_set" "_law_set" qcd f fd) (T:Txt mg)  : qaZ P w K mg base CX0 1 f fd ["_law_words_here", "_law_text_here"] (qjk K):=by
 have sc:=qfn
 refine F.ok qfn (fun vs H Q E h=>by obtain ⟨_,_,rfl,_⟩:=h;rfl) (fun cdv A outer s H vs Q E hr h=>?_)
 obtain ⟨x0,x1,rfl,h⟩:=h
 refine ⟨_,(qab (qaA (qaj (qay (K:=K) rfl hr.units0) (pv 1) qag (qao _)) (qae (qah qaf)) qak)
   (qab (qax (i:=2) sc.nd rfl (Or.inl rfl) qaf)
   (qab (qbo PassesOwn.never rfl (qaM (qbp PySem.F.plainAttrs_str PySem.F.slot_str_split PySem.F.type_str_split qbW (pv 1) (qaa qag qac))) (qas (i:=3) sc.nd rfl (Or.inl rfl)) (qae (qax (i:=2) sc.nd rfl (Or.inl rfl) (qaq qi0 (pv 2) (qaq qbx qaf (qjx (K:=K) rfl PySem.F.plainAttrs_list PySem.F.slot_list_index PySem.F.type_list_index qd8 (pv 0) (qaa (pv 3) qac)))))))
   (qae (qah (pv 2)))))),?_⟩
 refine rdg (σ':=[some x0,some x1,none,none]) rfl ?_
 obtain ⟨p,ws,a,rfl,f1,hw,rfl,ha,q⟩:=h
 walk_at "rd"
 have h8:=hw.few
 have l1:=Tx.sT_len hw ha
 have es:=Tx.split_sT hw ha
 by_cases h0:a=0
 · rw [if_pos (show Tx.sT ws a=Str.ofString "-" from if_pos h0)]
   subst h0
   exact q _ (qau.refl _)
 rw [if_neg h0] at es
 have nz:¬Tx.sT ws a=Str.ofString "-" := fun e=>by
   rw [e] at es
   have e2:_root_.PySem.Txt.split (Str.ofString "-") "+" = [("-" : Str)]:=by decide +kernel
   have hm:=hw.wd "-" (Tx.wds_mem hw ha (by rw [←es,e2];exact List.mem_cons_self))
   have:=hm.2.2 45 (by rw [Tx.lit_dash];exact List.mem_cons_self)
   omega
 rw [if_neg nz]
 refine ⟨rfl,_,_,rfl,rfl,by rw [Tx.lit_plus];rfl,by omega,fun p1 hp1=>⟨p1,rfl,⟨_,SqL.of qai⟩,?_⟩⟩
 generalize g1:upd H p1 _=G1
 have a1:=qaw g1
 have s1:=qar g1 hp1
 rw [show _root_.PySem.Txt.split (Tx.sT ws a) (Str.ofString "+")=_ from es] at a1
 refine qh8 (xs:=sV (Tx.wds ws a)) (fun i σ H'=>∃v,σ=[some (.ref p),some (.str (Tx.sT ws a)),some (.int (Fam.ofN ((Fam.nms 8 a).take i):Nat)),v]∧qau G1 H') ⟨none,rfl,qau.refl _⟩ (fun i σ H' _ ⟨_,_,e⟩=>SqL.of (e _ _ a1)) ?_ ?_
 · rintro i x σ H' hx ⟨v,rfl,s2⟩ N hN
   rw [List.getElem?_map] at hx
   cases eb:(Tx.wds ws a)[i]? with
   | none=>rw [eb] at hx;cases hx
   | some w =>
     rw [eb] at hx
     cases hx
     have wm:=Tx.wds_mem hw ha (List.mem_of_getElem? eb)
     have hk:(Fam.nms 8 a)[i]?=some (ws.idxOf w):=by rw [←Tx.idx_wds hw ha,List.getElem?_map,eb];rfl
     have kl:=List.idxOf_lt_length_of_mem wm
     have f2:=s2 _ _ (s1 _ _ f1)
     (try walk_at "rd")
     refine ⟨qb5 f2,p,ws,w,rfl,rfl,f2,wm,by omega,?_⟩
     (try walk_at "rd")
     refine ⟨qaW (by omega) (by omega) (by decide) (by decide),?_⟩
     rw [qa5,qfg,←qgM,←qdL hk]
     exact hN _ _ ⟨_,rfl,s2⟩
 · rintro σ H' ⟨v,rfl,s2⟩
   (try walk_at "rd")
   have el:(sV (Tx.wds ws a)).length=(Fam.nms 8 a).length:=by rw [qaS,←Tx.idx_wds hw ha,List.length_map]
   have e8:a<2^8:=Nat.lt_of_lt_of_le ha (Nat.pow_le_pow_right (by decide) h8)
   rw [el,List.take_length,Fam.ofN_nms e8]
   exact q _ (s1.trans s2)
abbrev qbS:Stmt:=top 92
theorem qeJ:qan ["_law_words_here", "_law_text_here"] ["_law_words_here", "_law_text_here"] (qad qbS):=⟨rfl,rfl,rfl,by decide +kernel,rfl,by decide +kernel,by decide +kernel⟩
def qi3 (K:W.Frag):Sp:=sp2 fun x y H Q=>∃(p:Addr) (ws:List Str) (fs:List Nat),x = .ref p∧H p=some (.lst (sV ws))∧Tx.Wds ws∧y = .str (Tx.fT ws fs)∧(∀b∈fs,b<2^ws.length)∧fs.length≤70∧∀p' H',H p'=none→qau H H'→H' p'=some (.lst (nV fs))→Q (.ref p') H'
theorem qhK {f:Addr} {fd:FuncData} (F:Fun K "_law_read" "_law_read" qbS f fd) (T:Txt mg) {f_36:Addr} {fd_36:FuncData} (C_36:Cal P w K mg base "_law_set" 1 ["_law_words_here", "_law_text_here"] (qjk K) f_36 fd_36):qaZ P w K mg base CX0 2 f fd ["_law_words_here", "_law_text_here"] (qi3 K):=by
 have sc:=qeJ
 refine F.ok qeJ (fun vs H Q E h=>by obtain ⟨_,_,rfl,_⟩:=h;rfl) (fun cdv A outer s H vs Q E hr h=>?_)
 obtain ⟨x0,x1,rfl,h⟩:=h
 refine ⟨_,(qab (qaA (qaj (qay (K:=K) rfl hr.units0) (pv 1) qag (qao _)) (qae (qah (qa7 qac))) qak)
   (qae (qah (qaQ (N:=["_law_part", "_law_words_here"]) (nt:=1) (caps:=[0]) qaF rfl (qaM (qbp PySem.F.plainAttrs_str PySem.F.slot_str_split PySem.F.type_str_split qbW (pv 1) (qaa qag qac))) (fun _ _ _ _ _=>(qas (i:=0) (show List.Nodup (α:=Str) ["_law_part", "_law_words_here"] from by decide +kernel) rfl (Or.inl rfl))) qaJ (fun _ _ _ _ _=>qaY) (fun _ _ _ _ _=>(qap C_36 hr (by decide) (by rfl) (qaa (pv 1) (qaa (pv 0) qac)))))))),?_⟩
 refine rdg (σ':=[some x0,some x1]) rfl ?_
 obtain ⟨p,ws,fs,rfl,f1,hw,rfl,hb,hl,q⟩:=h
 walk_at "rd"
 have l1:=Tx.fT_len hw hb (by omega)
 have es:=Tx.split_fT hw hb
 by_cases h0:fs=[]
 · rw [if_pos (show Tx.fT ws fs=Str.ofString "none" from if_pos h0)]
   subst h0
   exact ⟨qaC (by simp),fun p1 hp1=>q _ _ hp1 (qau.new hp1) qai⟩
 rw [if_neg h0] at es
 have nz:¬Tx.fT ws fs=Str.ofString "none" := fun e=>by
   rw [e] at es
   have e2:_root_.PySem.Txt.split (Str.ofString "none") " " = [("none" : Str)]:=by decide +kernel
   have hm:("none" : Str)∈fs.map (Tx.sT ws):=by rw [←es,e2];exact List.mem_cons_self
   obtain ⟨b,hb',e3⟩:=List.mem_map.mp hm
   exact Tx.sT_none hw (hb b hb') e3
 rw [if_neg nz]
 refine ⟨rfl,_,_,rfl,rfl,by rw [Tx.lit_space];rfl,by omega,fun p1 hp1=>⟨p1,rfl,⟨_,SqL.of qai⟩,?_⟩⟩
 generalize g1:upd H p1 _=G1
 have a1:=qaw g1
 have s1:=qar g1 hp1
 rw [show _root_.PySem.Txt.split (Tx.fT ws fs) (Str.ofString " ")=_ from es] at a1
 refine qhQ (xs:=sV (fs.map (Tx.sT ws))) (fun i ys H'=>qau G1 H'∧ys=nV (fs.take i)) ⟨qau.refl _,rfl⟩ (qaC (by rw [qaS,List.length_map];omega)) (fun i ys H' hi h=>⟨SqL.of (h.1 _ _ a1),by rw [h.2,qbz,List.length_take];omega⟩) (fun i x ys H' hx h R R' r1 r2=>?_) fun ys H' h p3 hp3=>?_
 · obtain ⟨s2,rfl⟩:=h
   rw [List.getElem?_map,List.getElem?_map] at hx
   cases eb:fs[i]? with
   | none=>rw [eb] at hx;cases hx
   | some b =>
     rw [eb] at hx
     cases hx
     (try walk_at "rd")
     refine ⟨_,_,rfl,p,ws,b,rfl,s2 _ _ (s1 _ _ f1),hw,rfl,hb b (List.mem_of_getElem? eb),fun H3 s3=>r1 _ _ ⟨s2.trans s3,?_⟩⟩
     rw [qdL eb]
     simp
 · obtain ⟨s2,rfl⟩:=h
   rw [qaS,List.length_map,List.take_length]
   exact q p3 _ (qaD (s1.trans s2) hp3) ((s1.trans s2).trans (qau.new hp3)) qai
abbrev qbs:Stmt:=top 93
theorem qdO:qan ["_law_one", "_law_family_here"] ["_law_one", "_law_family_here"] (qad qbs):=⟨rfl,rfl,rfl,by decide +kernel,rfl,by decide +kernel,by decide +kernel⟩
def qeZ (K:W.Frag):Sp:=sp2 fun x y H Q=>∃(a:Nat) (p:Addr) (fs:List Nat),x = .int (a:Nat)∧y = .ref p∧H p=some (.lst (nV fs))∧fs.length≤1000∧∀H',qau H H'→Q (.bl (Fam.hitP fs a)) H'
theorem qhm {f:Addr} {fd:FuncData} (F:Fun K "_law_meets" "_law_meets" qbs f fd) (T:Txt mg)  : qaZ P w K mg base CX0 1 f fd ["_law_one", "_law_family_here"] (qeZ K):=by
 have sc:=qdO
 refine F.ok qdO (fun vs H Q E h=>by obtain ⟨_,_,rfl,_⟩:=h;rfl) (fun cdv A outer s H vs Q E hr h=>?_)
 obtain ⟨x0,x1,rfl,h⟩:=h
 refine ⟨_,(qae (qah (qb1 (qfi (K:=K) rfl) qaf (qaQ (N:=["_law_other", "_law_one"]) (nt:=1) (caps:=[0]) qaF rfl (qaM (pv 1)) (fun _ _ _ _ _=>(qas (i:=0) (show List.Nodup (α:=Str) ["_law_other", "_law_one"] from by decide +kernel) rfl (Or.inl rfl))) qaJ (fun _ _ _ _ _=>qaY) (fun _ _ _ _ _=>(qaq qcz (pv 1) (pv 0)))) (by with_unfolding_all rfl)))),?_⟩
 refine rdg (σ':=[some x0,some x1]) rfl ?_
 obtain ⟨i,p,fs,rfl,rfl,f1,hl,q⟩:=h
 walk_at "rd"
 refine ⟨⟨_,SqL.of f1⟩,qcX (fun _=>true) (fun b => .int ((i&&&b:Nat))) (SqL.of f1) (by omega) (fun b hb H4 s4 R R' r1 r2=>?_) fun G5 p5 t5 hp5=>?_⟩
 · (try walk_at "rd")
   rw [qb3]
   exact r1 rfl _ (qau.refl _)
 have e:(fs.filter fun _=>true).map (fun b=>V.int ((i&&&b:Nat)))=nV (fs.map fun b=>i&&&b):=by
   rw [List.filter_eq_self.mpr fun _ _=>rfl]
   simp
 rw [e]
 refine ⟨p5,rfl,_,.inl (SqL.of qai),rfl,qc4 _,?_⟩
 have z:inV (.int 0) (nV (fs.map fun b=>i&&&b)) = !Fam.hitP fs i:=by
   rw [show (V.int 0)=V.int ((0:Nat):Int) from rfl,qpL,Bool.eq_iff_iff,decide_eq_true_eq,Bool.not_eq_true',List.mem_map]
   constructor
   · rintro ⟨b,hb,e0⟩
     cases hq:Fam.hitP fs i with
     | false=>rfl
     | true=>exact absurd e0 (Fam.hitP_iff.mp hq b hb)
   · intro hq
     apply Classical.byContradiction
     intro hno
     have:Fam.hitP fs i=true:=Fam.hitP_iff.mpr fun b hb e0=>hno ⟨b,hb,e0⟩
     rw [this] at hq
     cases hq
 rw [z,Bool.not_not]
 exact q _ (t5.trans (qau.new hp5))
abbrev qcb:Stmt:=top 94
theorem qfL:qan ["_law_many", "_law_family_here", "_law_meeting"] ["_law_many", "_law_family_here"] (qad qcb):=⟨rfl,rfl,rfl,by decide +kernel,rfl,by decide +kernel,by decide +kernel⟩
theorem qp5 {m:Nat} {fs L:List Nat} (eL:(List.range (2^m)).filter (fun a=>Fam.hitP fs a)=L):L.filter (fun a=>decide (L.filter (fun b=>decide (b≠a∧a&&&b=b))=[]))=Fam.hits m fs:=by
 have mL:∀x,x∈L↔x<2^m∧Fam.hitP fs x=true:=fun x=>by rw [←eL,List.mem_filter,List.mem_range]
 have rL:L.Pairwise (· < ·):=by rw [←eL];exact List.pairwise_lt_range.sublist List.filter_sublist
 refine Fam.rise_ext (rL.sublist List.filter_sublist) (Fam.hits_rise m fs) fun a=>?_
 rw [List.mem_filter,decide_eq_true_eq,List.filter_eq_nil_iff,Fam.mem_hits,mL]
 constructor
 · rintro ⟨⟨h1,h2⟩,h3⟩
   refine ⟨h1,h2,fun b hb hh hs=>?_⟩
   have:=h3 b ((mL b).mpr ⟨hb,hh⟩)
   rw [decide_eq_true_eq] at this
   exact Classical.byContradiction fun hne=>this ⟨hne,hs⟩
 · rintro ⟨h1,h2,h3⟩
   refine ⟨⟨h1,h2⟩,fun b hb=>?_⟩
   rw [decide_eq_true_eq]
   rintro ⟨hne,hs⟩
   exact hne (h3 b ((mL b).mp hb).1 ((mL b).mp hb).2 hs)
def qlq (K:W.Frag):Sp:=sp2 fun x y H Q=>∃(m:Nat) (p:Addr) (fs:List Nat),x = .int (m:Nat)∧m≤8∧y = .ref p∧H p=some (.lst (nV fs))∧fs.length≤1000∧∀p' H',H p'=none→qau H H'→H' p'=some (.lst (nV (Fam.hits m fs)))→Q (.ref p') H'
theorem qiB {f:Addr} {fd:FuncData} (F:Fun K "_law_due" "_law_due" qcb f fd) (T:Txt mg) {f_22:Addr} {fd_22:FuncData} (C_22:Cal P w K mg base "_law_meets" 1 ["_law_one", "_law_family_here"] (qeZ K) f_22 fd_22):qaZ P w K mg base CX0 2 f fd ["_law_many", "_law_family_here"] (qlq K):=by
 have sc:=qfL
 refine F.ok qfL (fun vs H Q E h=>by obtain ⟨_,_,rfl,_⟩:=h;rfl) (fun cdv A outer s H vs Q E hr h=>?_)
 obtain ⟨x0,x1,rfl,h⟩:=h
 refine ⟨_,(qab (qax (i:=2) sc.nd rfl (Or.inr rfl) (qaQ (N:=["_law_one", "_law_family_here"]) (nt:=1) (caps:=[1]) qaF rfl (qaO (by rfl) T.n_range (qaa (qaq qbx qaf (pv 0)) qac)) (fun _ _ _ _ _=>(qas (i:=0) (show List.Nodup (α:=Str) ["_law_one", "_law_family_here"] from by decide +kernel) rfl (Or.inl rfl))) qaJ (fun _ _ _ _ _=>(qcv (qbn (qap C_22 hr (by decide) (by rfl) (qaa (pv 0) (qaa (pv 1) qac)))))) (fun _ _ _ _ _=>(pv 0))))
   (qae (qah (ql8 (N:=["_law_one", "_law_meeting"]) (nt:=1) (caps:=[2]) (cx := "_law_one") (qjd (fun _ _=>rfl) (fun _=>rfl)) rfl (qdd (K:=K) rfl (pv 2)) (fun _ _ _ _ _=>(qas (i:=0) (show List.Nodup (α:=Str) ["_law_one", "_law_meeting"] from by decide +kernel) rfl (Or.inr rfl))) qaJ (fun _ _ _ _ _=>(qcv (qaj (qay (K:=K) rfl hr.units0) (qaQ (N:=["_law_other", "_law_one"]) (nt:=1) (caps:=[0]) qaF rfl (qdd (K:=K) rfl (pv 1)) (fun _ _ _ _ _=>(qas (i:=0) (show List.Nodup (α:=Str) ["_law_other", "_law_one"] from by decide +kernel) rfl (Or.inl rfl))) qaJ (fun _ _ _ _ _=>(qcv (PW.pt (qdz (qaj (qbC (K:=K) rfl hr.units0) (pv 0) (pv 1) (qao _)) (qcO (qaj (qay (K:=K) rfl hr.units0) (qaq qcz (pv 1) (pv 0)) (pv 0) (qao _))))))) (fun _ _ _ _ _=>(pv 0))) (qa7 qac) (qao _)))) (fun _ _ _ _ _=>(pv 0)))))),?_⟩
 refine rdg (σ':=[some x0,some x1,none]) rfl ?_
 obtain ⟨m,p,fs,rfl,hm,rfl,f1,hl,q⟩:=h
 walk_at "rd"
 have pp:=Nat.two_pow_pos m
 have p8:2^m≤256:=Nat.pow_le_pow_right (n:=2) (by decide) hm
 rw [qa5]
 refine ⟨qaW (by omega) (by omega) (by decide) (by decide),by omega,by omega,?_⟩
 rw [Int.toNat_natCast]
 refine qdy (fun a=>Fam.hitP fs a) (fun a => .int (a:Nat)) (by omega) (fun a ha H1 s1 R R' r1 r2=>?_) fun H1 p1 s1 hp1=>?_
 · (try walk_at "rd")
   refine ⟨_,_,rfl,a,p,fs,rfl,rfl,s1 _ _ f1,hl,fun H2 s2=>⟨_,rfl,?_⟩⟩
   cases e:Fam.hitP fs a with
   | true=>exact qeT (r1 e _ s2)
   | false=>exact qcp (r2 e _ s2)
 rw [qfm]
 generalize eL:(List.range (2^m)).filter (fun a=>Fam.hitP fs a)=L
 have lL:L.length≤256:=by rw [←eL];exact Nat.le_trans (List.length_filter_le _ _) (by rw [List.length_range];exact p8)
 generalize g1:upd H1 p1 _=G1
 have a1:=qaw g1
 have t1:=s1.trans (qar g1 hp1)
 refine ⟨p1,rfl,⟨_,SqL.of a1⟩,qcX (fs:=L) (fun a=>decide (L.filter (fun b=>decide (b≠a∧a&&&b=b))=[])) (fun a => .int (a:Nat)) (SqL.of a1) (by omega) (fun a ha H2 s2 R R' r1 r2=>?_) fun H2 p2 s2 hp2=>?_⟩
 · (try walk_at "rd")
   refine ⟨⟨_,SqL.of (s2 _ _ a1)⟩,qcX (fs:=L) (fun b=>decide (b≠a∧a&&&b=b)) (fun b => .int (b:Nat)) (SqL.of (s2 _ _ a1)) (by omega) (fun b hb H3 s3 R2 R2' u1 u2=>?_) fun H3 p3 s3 hp3=>?_⟩
   · (try walk_at "rd")
     by_cases e1:b=a
     · exact ⟨false,by rw [decide_eq_true (by omega)];rfl,qcp (u2 (decide_eq_false fun h=>h.1 e1) _ (qau.refl _))⟩
     · refine ⟨true,by rw [decide_eq_false (by omega)];rfl,qeT ?_⟩
       rw [qb3]
       by_cases e2:a&&&b=b
       · rw [if_pos (by rw [e2])]
         exact u1 (decide_eq_true ⟨e1,e2⟩) _ (qau.refl _)
       · rw [if_neg (by omega)]
         exact u2 (decide_eq_false fun h=>e2 h.2) _ (qau.refl _)
   · rw [qfm]
     refine ⟨qaC (by simp),fun p4 hp4=>?_⟩
     generalize g3:upd H3 p3 _=G3 at hp4 ⊢
     have a3:=qaw g3
     have w3:=s3.trans (qar g3 hp3)
     generalize g4:upd G3 p4 _=G4
     have a4:=qaw g4
     have w4:=w3.trans (qar g4 hp4)
     refine qg5 (SqL.of (qar g4 hp4 _ _ a3)) (SqL.of a4) (qc4 _) rfl ?_
     rw [show ([]:List V)=nV [] from rfl,qgk]
     by_cases e:L.filter (fun b=>decide (b≠a∧a&&&b=b))=[]
     · exact ⟨true,by rw [decide_eq_true e],qeT (r1 (decide_eq_true e) _ w4)⟩
     · exact ⟨false,by rw [decide_eq_false e],qcp (r2 (decide_eq_false e) _ w4)⟩
 · rw [qfm]
   refine q p2 _ (qaD (t1.trans s2) hp2) ((t1.trans s2).trans (qau.new hp2)) ?_
   rw [qai,qp5 eL]
abbrev qdm:Stmt:=top 10
theorem qhs:qan ["many", "thing"] ["many", "thing"] (qad qdm):=⟨rfl,rfl,rfl,by decide +kernel,rfl,by decide +kernel,by decide +kernel⟩
def qo2:Sp:=sp2 fun m x H Q=>(∃(k:Nat) (i:Int),m = .int k∧x = .int i∧k≤8∧Q (.bl (decide (0≤i)&&decide (i<(2^k:Nat)))) H)∨∃t,qkf H x=some t∧t ≠ "int" ∧ Q (.bl false) H
theorem qkj {f:Addr} {fd:FuncData} (F:Fun K "is_set" "is_set" qdm f fd) (T:Txt mg) {f_35:Addr} {fd_35:FuncData} (C_35:Cal P w K mg base "is_whole" 1 ["thing"] qiU f_35 fd_35):qaZ P w K mg base CX0 2 f fd ["many", "thing"] qo2:=by
 have sc:=qhs
 refine F.ok qhs (fun vs H Q E h=>by obtain ⟨_,_,rfl,_⟩:=h;rfl) (fun cdv A outer s H vs Q E hr h=>?_)
 obtain ⟨x0,x1,rfl,h⟩:=h
 refine ⟨_,(qae (qah (qjy (qap C_35 hr (by decide) (by rfl) (qaa (pv 1) qac)) (qi9 (qha qm2 qoA qaf (pv 1) (qaq qbx qaf (pv 0))))))),?_⟩
 refine rdg (σ':=[some x0,some x1]) rfl ?_
 walk_at "rd"
 rcases h with ⟨k,i,rfl,rfl,hk8,q⟩ | ⟨t,hk,hne,q⟩
 · refine ⟨_,rfl, "int",rfl,true,rfl,qeT ?_⟩
   walk_at "rd"
   split
   · rename_i h0
     rw [decide_eq_true h0,Bool.true_and] at q
     refine ⟨qaW (by omega) (by omega) (by decide) (by decide),?_⟩
     rw [qa5]
     exact q
   · rename_i h0
     rw [decide_eq_false h0,Bool.false_and] at q
     exact q
 · exact ⟨_,rfl,t,hk,false,by rw [qmg hne],qcp q⟩
abbrev qbN:Stmt:=top 18
theorem qez:qan ["many", "thing", "before", "one"] ["many", "thing"] (qad qbN):=⟨rfl,rfl,rfl,by decide +kernel,rfl,by decide +kernel,by decide +kernel⟩
/-- how far the items are sets that rise,from b on -/
def qmp (m:Nat):Int→List V→Bool
 | _,[]=>true
 | b,x::r=>match x with | .int i=>decide (0≤i)&&decide (i<(2^m:Nat))&&decide (b<i)&&qmp m i r | _=>false
/-- the items are of kinds that are told -/
def Kd (H:Hp) (xs:List V):Prop:=∀x∈xs,∃t,qkf H x=some t
theorem qpz {H:Hp} {x:V} {t:String} (h:qkf H x=some t) (hn:∀i,x ≠ .int i):t ≠ "int" := by
 intro e
 subst e
 cases x with
 | int i=>exact hn i rfl
 | non=>exact absurd (Option.some.inj h) (by decide)
 | bl b=>exact absurd (Option.some.inj h) (by decide)
 | str z=>exact absurd (Option.some.inj h) (by decide)
 | byt z=>cases h
 | flt z=>cases h
 | ty z=>cases h
 | ref a =>
   unfold qkf at h
   dsimp only at h
   split at h<;>first | exact absurd (Option.some.inj h) (by decide) | cases h
theorem qoc {m:Nat} {b:Int} {x:V} {r:List V} (hn:∀i,x ≠ .int i):qmp m b (x::r)=false:=by
 cases x with
 | int i=>exact absurd rfl (hn i)
 | _=>rfl
theorem qmD {t:String} (h:t ≠ "list"):ql1 t "list" = false:=by
 unfold ql1
 rw [show (t == "list")=false from beq_eq_false_iff_ne.mpr h]
 cases (t == "bool")<;>rfl
def qi6 (K:W.Frag):Sp:=sp2 fun x y H Q=>∃m:Nat,x = .int m∧m≤8∧((∃(p:Addr) (xs:List V),y = .ref p∧H p=some (.lst xs)∧xs.length≤1000∧Kd H xs∧Q (.bl (decide (xs.length≤70)&&qmp m (-1) xs)) H)∨∃t,qkf H y=some t∧t ≠ "list" ∧ Q (.bl false) H)
theorem qif {f:Addr} {fd:FuncData} (F:Fun K "is_family" "is_family" qbN f fd) (T:Txt mg) {f_48:Addr} {fd_48:FuncData} (C_48:Cal P w K mg base "is_set" 2 ["many", "thing"] qo2 f_48 fd_48):qaZ P w K mg base CX0 3 f fd ["many", "thing"] (qi6 K):=by
 have sc:=qez
 refine F.ok qez (fun vs H Q E h=>by obtain ⟨_,_,rfl,_⟩:=h;rfl) (fun cdv A outer s H vs Q E hr h=>?_)
 obtain ⟨x0,x1,rfl,h⟩:=h
 refine ⟨_,(qab (qaA (PW.pt (qhk (qb4 (qbn (qaB qco (by rfl) T.n_isinstance PyProof.Rows.boot_isinstance (qaa (pv 1) (qaa (qfl (v := .ty "list") (by rfl) T.n_list PyProof.Rows.boot_list rfl) qac))))) (qdT (qaj qoS (qaB (qaN (K:=K) rfl) (by rfl) T.n_len PySem.boot_len (qaa (pv 1) qac)) (qeV T.c_MOST_SETS (by rfl)) (qao _))))) (qae (qah qcH)) qak)
   (qab (qax (i:=2) sc.nd rfl (Or.inl rfl) (qp7 qp8 qaf))
   (qab (qbo PassesOwn.never rfl (qaM (pv 1)) (qas (i:=3) sc.nd rfl (Or.inl rfl)) (qab (qaA (PW.pt (qhk (qb4 (qbn (qap C_48 hr (by decide) (by rfl) (qaa (pv 0) (qaa (pv 3) qac))))) (qdT (qaj qm2 (pv 3) (pv 2) (qao _))))) (qae (qah qcH)) qak)
   (qae (qax (i:=2) sc.nd rfl (Or.inl rfl) (pv 3)))))
   (qae (qah qcH))))),?_⟩
 refine rdg (σ':=[some x0,some x1,none,none]) rfl ?_
 obtain ⟨m,rfl,hm,h⟩:=h
 walk_at "rd"
 rcases h with ⟨p,xs,rfl,f1,hl,kd,q⟩ | ⟨t,hk,hne,q⟩
 · refine ⟨_, "list",⟨rfl,rfl⟩, "list",qp3 f1,by decide,?_⟩
   rw [if_neg (by decide)]
   refine ⟨p,rfl,_,.inl (SqL.of f1),?_⟩
   (try walk_at "rd")
   by_cases h70:xs.length≤70
   · rw [if_neg (by omega)]
     rw [decide_eq_true h70,Bool.true_and] at q
     refine ⟨⟨_,SqL.of f1⟩,qh8 (xs:=xs) (fun i σ H'=>∃(b:Int) (v:Option V),σ=[some (.int m),some (.ref p),some (.int b),v]∧H'=H∧qmp m (-1) xs=qmp m b (xs.drop i)) ⟨-1,none,rfl,rfl,rfl⟩ (fun i σ H' _ ⟨_,_,_,e,_⟩=>e▸SqL.of f1) ?_ ?_⟩
     · rintro i x σ H' hx ⟨b,v,rfl,rfl,ef⟩ N hN
       have hi:=List.getElem?_eq_some_iff.mp hx
       have ed:xs.drop i=x::xs.drop (i+1):=by rw [List.drop_eq_getElem_cons hi.1,hi.2]
       rw [ed] at ef
       obtain ⟨t,ht⟩:=kd x (List.mem_of_getElem? hx)
       (try walk_at "rd")
       by_cases hz:∃z,x = .int z
       · obtain ⟨z,rfl⟩:=hz
         refine ⟨_,_,rfl,.inl ⟨m,z,rfl,rfl,hm,?_⟩⟩
         have ef':qmp m (-1) xs=(decide (0≤z)&&decide (z<(2^m:Nat))&&decide (b<z)&&qmp m z (xs.drop (i+1))):=ef
         (try walk_at "rd")
         by_cases hs:(decide (0≤z)&&decide (z<(2^m:Nat)))=false
         · rw [if_pos hs]
           rw [ef',hs,Bool.false_and,Bool.false_and] at q
           exact q
         · rw [if_neg hs]
           rw [(Bool.not_eq_false _).mp hs,Bool.true_and] at ef'
           by_cases hb:b<z
           · rw [if_neg (by omega)]
             rw [decide_eq_true hb,Bool.true_and] at ef'
             exact hN _ _ ⟨z,_,rfl,rfl,ef'⟩
           · rw [if_pos (by omega)]
             rw [ef',decide_eq_false hb,Bool.false_and] at q
             exact q
       · have hz':∀i,x ≠ .int i:=fun i e=>hz ⟨i,e⟩
         refine ⟨_,_,rfl,.inr ⟨t,ht,qpz ht hz',?_⟩⟩
         (try walk_at "rd")
         rw [ef,qoc hz'] at q
         exact q
     · rintro σ H' ⟨b,v,rfl,rfl,ef⟩
       rw [List.drop_length] at ef
       rw [ef] at q
       (try walk_at "rd")
       exact q
   · rw [if_pos (by omega)]
     rw [decide_eq_false h70,Bool.false_and] at q
     exact q
 · refine ⟨_, "list",⟨rfl,rfl⟩,t,hk,by decide,?_⟩
   rw [qmD hne]
   exact q
abbrev qca:Stmt:=top 11
theorem qfy:qan ["one"] ["one"] (qad qca):=⟨rfl,rfl,rfl,by decide +kernel,rfl,by decide +kernel,by decide +kernel⟩
def qd9:Sp:=sp1 fun x H Q=>∃a:Nat,x = .int a∧a<256∧∀H' p,qau H H'→H' p=none→Q (.ref p) (upd H' p (.lst (nV (Fam.nms 8 a))))
theorem qmE:∀a:Nat,a<256→(List.range (Builtin.Int.intBits (a:Int))).filter (fun k=>a.testBit k)=Fam.nms 8 a:=by decide +kernel
theorem qpe:∀a:Nat,a<256→Builtin.Int.intBits (a:Int)≤8:=by decide +kernel
theorem qiq {f:Addr} {fd:FuncData} (F:Fun K "names_in" "names_in" qca f fd) (T:Txt mg)  : qaZ P w K mg base CX0 1 f fd ["one"] qd9:=by
 have sc:=qfy
 refine F.ok qfy (fun vs H Q E h=>by obtain ⟨_,rfl,_⟩:=h;rfl) (fun cdv A outer s H vs Q E hr h=>?_)
 obtain ⟨x0,rfl,h⟩:=h
 refine ⟨_,(qae (qah (qaQ (N:=["k", "one"]) (nt:=1) (caps:=[0]) qaF rfl (qaO (by rfl) T.n_range (qaa (qqM PySem.F.plainAttrs_int PySem.F.slot_int_bit_length PySem.F.type_int_bit_length qlQ (pv 0)) qac)) (fun _ _ _ _ _=>(qas (i:=0) (show List.Nodup (α:=Str) ["k", "one"] from by decide +kernel) rfl (Or.inl rfl))) qaJ (fun _ _ _ _ _=>(qcv (qaj (qay (K:=K) rfl hr.units0) (qaq qcz (qaq qkq (pv 1) (pv 0)) qaf) qaf (qao _)))) (fun _ _ _ _ _=>(pv 0))))),?_⟩
 refine rdg (σ':=[some x0]) rfl ?_
 obtain ⟨a,rfl,ha,q⟩:=h
 walk_at "rd"
 have hb:=qpe a ha
 refine ⟨by simp [tyV],by omega,by omega,?_⟩
 rw [Int.toNat_natCast]
 refine qdy (fun k=>a.testBit k) (fun k => .int (k:Nat)) (by omega) (fun k hk H1 sm R R' r1 r2=>?_) fun H1 p sm hp=>?_
 · walk_at "rd"
   refine ⟨by omega,qiW qfd (fun hc=>r1 hc _ (qau.refl _)) fun hc=>r2 hc _ (qau.refl _)⟩
 · rw [qmb,qmE a ha]
   exact q H1 p sm hp
abbrev qdl:Stmt:=top 12
theorem qig:qan ["names", "one", "k"] ["names"] (qad qdl):=⟨rfl,rfl,rfl,by decide +kernel,rfl,by decide +kernel,by decide +kernel⟩
def qit (K:W.Frag):Sp:=sp1 fun x H Q=>∃p fs,x = .ref p∧SqL K H p (nV fs)∧(∀k∈fs,k<8)∧Q (.int (Fam.ofN fs:Nat)) H
theorem qlw {f:Addr} {fd:FuncData} (F:Fun K "set_of" "set_of" qdl f fd) (T:Txt mg)  : qaZ P w K mg base CX0 1 f fd ["names"] (qit K):=by
 have sc:=qig
 refine F.ok qig (fun vs H Q E h=>by obtain ⟨_,rfl,_⟩:=h;rfl) (fun cdv A outer s H vs Q E hr h=>?_)
 obtain ⟨x0,rfl,h⟩:=h
 refine ⟨_,(qab (qax (i:=1) sc.nd rfl (Or.inl rfl) qaf)
   (qab (qbo PassesOwn.never rfl (qaM (pv 0)) (qas (i:=2) sc.nd rfl (Or.inl rfl)) (qae (qax (i:=1) sc.nd rfl (Or.inl rfl) (qaq qi0 (pv 1) (qaq qbx qaf (pv 2))))))
   (qae (qah (pv 1))))),?_⟩
 refine rdg (σ':=[some x0,none,none]) rfl ?_
 obtain ⟨p,fs,rfl,hq,hb,q⟩:=h
 walk_at "rd"
 refine ⟨⟨_,hq⟩,qnV (xs:=nV fs) (fun i σ H'=>∃v,σ=[some (.ref p),some (.int (Fam.ofN (fs.take i):Nat)),v]∧H'=H) ⟨none,rfl,rfl⟩ (fun i σ H' _ ⟨v,_,e⟩=>e▸hq) ?_ ?_⟩
 · rintro i x σ H' hx ⟨v,rfl,rfl⟩
   obtain ⟨a,ha,rfl⟩:=qkk hx
   have h8:=hb a (List.mem_of_getElem? ha)
   walk_at "rd"
   refine ⟨qaW (by omega) (by omega) (by decide) (by decide),?_⟩
   rw [qdL ha,qgM,←qfg,qa5]
 · rintro σ H' ⟨v,rfl,rfl⟩
   rw [qbz,List.take_length]
   exact ⟨_,rfl,q⟩
abbrev qdh:Stmt:=top 33
theorem qhq:qan ["text", "sign"] ["text", "sign"] (qad qdh):=⟨rfl,rfl,rfl,by decide +kernel,rfl,by decide +kernel,by decide +kernel⟩
def qdW:Sp:=sp2 fun x y H Q=>∃z s:Str,x = .str z∧y = .str s∧(s.length==0)=false∧z.length≤10000∧∀p H',H p=none→qau H H'→H' p=some (.lst (sV (Txt.split z s)))→Q (.ref p) H'
theorem ql0 {f:Addr} {fd:FuncData} (F:Fun K "parted" "parted" qdh f fd) (T:Txt mg)  : qaZ P w K mg base CX0 1 f fd ["text", "sign"] qdW:=by
 have sc:=qhq
 refine F.ok qhq (fun vs H Q E h=>by obtain ⟨_,_,rfl,_⟩:=h;rfl) (fun cdv A outer s H vs Q E hr h=>?_)
 obtain ⟨x0,x1,rfl,h⟩:=h
 refine ⟨_,(qab (qaA (qb4 (qbn (qaB qco (by rfl) T.n_isinstance PyProof.Rows.boot_isinstance (qaa (pv 0) (qaa (qfl (v := .ty "str") (by rfl) T.n_str PyProof.Rows.boot_str rfl) qac))))) (qae qbj) qak)
   (qae (qah (qbp PySem.F.plainAttrs_str PySem.F.slot_str_split PySem.F.type_str_split qbW (pv 0) (qaa (pv 1) qac))))),?_⟩
 refine rdg (σ':=[some x0,some x1]) rfl ?_
 obtain ⟨z,s,rfl,rfl,hs,hz,q⟩:=h
 walk_at "rd"
 refine ⟨_,_,⟨rfl,rfl⟩, "str",rfl,by decide,?_⟩
 rw [if_neg (by decide)]
 exact ⟨rfl,z,s,rfl,rfl,hs,by omega,fun l hl=>q l _ hl (qau.new hl) qai⟩
abbrev qcC:Stmt:=top 32
theorem qgl:qan ["text"] ["text"] (qad qcC):=⟨rfl,rfl,rfl,by decide +kernel,rfl,by decide +kernel,by decide +kernel⟩
def qe0:Sp:=sp1 fun x H Q=>∃z:Str,x = .str z∧Tx.Wd z∧∀H',qau H H'→Q (.bl true) H'
theorem qjH {f:Addr} {fd:FuncData} (F:Fun K "is_word" "is_word" qcC f fd) (T:Txt mg)  : qaZ P w K mg base CX0 1 f fd ["text"] qe0:=by
 have sc:=qgl
 refine F.ok qgl (fun vs H Q E h=>by obtain ⟨_,rfl,_⟩:=h;rfl) (fun cdv A outer s H vs Q E hr h=>?_)
 obtain ⟨x0,rfl,h⟩:=h
 refine ⟨_,(qae (qah (qjy (qha qm2 qm2 qaf (qaB qhx (by rfl) T.n_len PySem.boot_len (qaa (pv 0) qac)) (qeV T.c_MOST_LETTERS (by rfl))) (qi9 (qaB (qmx (K:=K) rfl rfl) (by rfl) T.n_all PyProof.Rows.boot_all (qaa (qaQ (N:=["sign"]) (nt:=1) (caps:=[]) qaF rfl (qqv (pv 0)) (fun _ _ _ _ _=>(qas (i:=0) (show List.Nodup (α:=Str) ["sign"] from by decide +kernel) rfl (Or.inl rfl))) qaJ (fun _ _ _ _ _=>qaY) (fun _ _ _ _ _=>(qha qhD qhD qag (pv 0) qag))) qac)))))),?_⟩
 refine rdg (σ':=[some x0]) rfl ?_
 obtain ⟨z,rfl,hz,q⟩:=h
 walk_at "rd"
 have e24:sizeLine=16777216:=sizeLine_eq
 obtain ⟨h1,h8,hc⟩:=id hz
 refine ⟨by omega,?_⟩
 rw [if_pos (by omega),if_pos (by omega)]
 refine ⟨qnh hz,qqA (fun _=>true) (fun _ => .bl true) (by omega) (fun x hx H1 s1 R R' r1 r2=>?_) fun H1 p s1 hp=>?_⟩
 · obtain ⟨c1,c2⟩:=hc x hx
   (try walk_at "rd")
   have b1:=qsD c1
   have b2:(!decide (("z" : Str).cps.toList < [x]))=true:=qsw c2
   refine ⟨true,by simpa using b1,qeT ?_⟩
   rw [b2]
   exact r1 rfl _ (qau.refl _)
 · refine ⟨p,(sgs z).map fun _=>true,rfl,SqL.of ?_,?_⟩
   · rw [qai,List.filter_eq_self.mpr fun _ _=>rfl,List.map_map]
     rfl
   · rw [show ((sgs z).map fun _=>true).all id=true by simp]
     exact q _ (s1.trans (qau.new hp))
abbrev qbv:Stmt:=top 26
theorem qdN:qan ["text", "words", "word"] ["text"] (qad qbv):=⟨rfl,rfl,rfl,by decide +kernel,rfl,by decide +kernel,by decide +kernel⟩
def qdE (K:W.Frag):Sp:=sp1 fun x H Q=>∃ws:List Str,x = .str (Txt.join " " ws)∧Tx.Wds ws∧∀p H',H p=none→qau H H'→H' p=some (.lst (sV ws))→Q (.ref p) H'
theorem qgJ {f:Addr} {fd:FuncData} (F:Fun K "read_names" "read_names" qbv f fd) (T:Txt mg) {f_50:Addr} {fd_50:FuncData} (C_50:Cal P w K mg base "parted" 1 ["text", "sign"] qdW f_50 fd_50) {f_47:Addr} {fd_47:FuncData} (C_47:Cal P w K mg base "is_word" 1 ["text"] qe0 f_47 fd_47):qaZ P w K mg base CX0 2 f fd ["text"] (qdE K):=by
 have sc:=qdN
 refine F.ok qdN (fun vs H Q E h=>by obtain ⟨_,rfl,_⟩:=h;rfl) (fun cdv A outer s H vs Q E hr h=>?_)
 obtain ⟨x0,rfl,h⟩:=h
 refine ⟨_,(qab (qax (i:=1) sc.nd rfl (Or.inl rfl) (qap C_50 hr (by decide) (by rfl) (qaa (pv 0) (qaa qag qac))))
   (qab (qaA (qaj (qay (K:=K) rfl hr.units0) (pv 1) (qa7 (qaa qag qac)) (qao _)) (qae (qah (qa7 qac))) qak)
   (qab (qaA (PW.pt (qhk (qaj qoS (qaB (qaN (K:=K) rfl) (by rfl) T.n_len PySem.boot_len (qaa (pv 1) qac)) (qeV T.c_MOST_NAMES (by rfl)) (qao _)) (qdT (qaj qoA (qaB (qla (P:=P) (w:=w) rfl rfl) (by rfl) T.n_len PySem.boot_len (qaa (qck (qly (P:=P) (w:=w) (K:=K) rfl rfl rfl rfl) (by rfl) T.n_set PyProof.Rows.boot_set (qaa (pv 1) qac)) qac)) (qaB (qaN (K:=K) rfl) (by rfl) T.n_len PySem.boot_len (qaa (pv 1) qac)) (qao _))))) (qae qbj) qak)
   (qab (qbo PassesOwn.never rfl (qaM (pv 1)) (qas (i:=2) sc.nd rfl (Or.inl rfl)) (qae (qaA (PW.pt (qhk (qb4 (qbn (qap C_47 hr (by decide) (by rfl) (qaa (pv 2) qac)))) (qdT (qaj (qay (K:=K) rfl hr.units0) (pv 2) (qdc T.c_NO_SETS (by rfl)) (qao _))))) (qae qbj) qak)))
   (qae (qah (pv 1))))))),?_⟩
 refine rdg (σ':=[some x0,none,none]) rfl ?_
 obtain ⟨ws,rfl,hw,q⟩:=h
 walk_at "rd"
 by_cases h0:ws=[]
 · subst h0
   refine ⟨_,_,rfl,_,_,rfl,rfl,by rw [Tx.lit_space];rfl,by decide +kernel,fun p1 G1 hp1 s1 a1=>?_⟩
   rw [show Txt.split (Txt.join (" " : Str) []) " " = [("" : Str)] from by decide +kernel] at a1
   (try walk_at "rd")
   refine ⟨qaC (by simp),fun p2 hp2=>?_⟩
   generalize g2:upd G1 p2 _=G2
   have a2:G2 p2=some (.lst (sV [("" : Str)])):=qaw g2
   have s2:=qar g2 hp2
   refine qg5 (SqL.of (s2 _ _ a1)) (SqL.of a2) (qc8 _) (qc8 _) ?_
   rw [qhS]
   refine ⟨true,by simp,qeT ⟨qaC (by simp),fun p3 hp3=>?_⟩⟩
   have s12:=s1.trans s2
   exact q _ _ (qaD s12 hp3) (s12.trans (qau.new hp3)) qai
 have hn:0<ws.length:=List.length_pos_iff.mpr h0
 have h8:=hw.few
 have hL:(Txt.join (" " : Str) ws).length≤100:=by
   rw [←Tx.len_sg,Tx.lit_space,Tx.txt_join]
   refine Nat.le_trans (Tx.jn_len (M:=8) fun x hx=>?_) (Nat.le_trans (Nat.mul_le_mul_right 9 (by rw [List.length_map];exact h8)) (by decide))
   obtain ⟨w,hw',rfl⟩:=List.mem_map.mp hx
   rw [Tx.len_sg]
   exact (hw.wd w hw').2.1
 refine ⟨_,_,rfl,_,_,rfl,rfl,by rw [Tx.lit_space];rfl,by omega,fun p1 G1 hp1 s1 a1=>?_⟩
 rw [show Txt.split (Txt.join (" " : Str) ws) " " = ws from by rw [Tx.lit_space];exact Tx.split_join h0 fun w hw'=>(hw.wd w hw').free (by decide)] at a1
 (try walk_at "rd")
 refine ⟨qaC (by simp),fun p2 hp2=>?_⟩
 generalize g2:upd G1 p2 _=G2
 have a2:G2 p2=some (.lst (sV [("" : Str)])):=qaw g2
 have s2:=qar g2 hp2
 have a1':=s2 _ _ a1
 refine qg5 (SqL.of a1') (SqL.of a2) (qc8 _) (qc8 _) ?_
 rw [qhS]
 have ne:ws≠[("" : Str)]:=fun z=>by
   have hm:=hw.wd "" (by rw [z];exact List.mem_cons_self)
   have:=hm.1
   rw [Tx.lit_empty] at this
   exact absurd this (by decide)
 refine ⟨false,by simpa using ne,qcp ?_⟩
 refine ⟨_,.inl (SqL.of a1'),?_⟩
 rw [qaS,if_neg (by omega)]
 refine ⟨p1,ws,rfl,SqL.of a1',by omega,fun p3 hp3=>?_⟩
 rw [qqd hw.nd]
 generalize g3:upd G2 p3 _=G3
 have a3:=qaw g3
 have s3:=qar g3 hp3
 have a1'':=s3 _ _ a1'
 refine ⟨p3,_,rfl,a3,by omega,?_⟩
 refine ⟨_,.inl (SqL.of a1''),?_⟩
 (try walk_at "rd")
 rw [qaS,if_neg (by omega)]
 refine ⟨⟨_,SqL.of a1''⟩,qh8 (xs:=sV ws) (fun i σ H'=>∃v,σ=[some (.str (Txt.join (" " : Str) ws)),some (.ref p1),v]∧qau G3 H') ⟨none,rfl,qau.refl _⟩ (fun i σ H' _ ⟨_,_,e⟩=>SqL.of (e _ _ a1'')) ?_ ?_⟩
 · rintro i x σ H4 hx ⟨v,rfl,s4⟩ N hN
   obtain ⟨w,hw',rfl⟩:=List.mem_map.mp (List.mem_of_getElem? hx)
   (try walk_at "rd")
   refine ⟨_,rfl,w,rfl,hw.wd w hw',fun H5 s5=>⟨true,rfl,?_⟩⟩
   rw [if_neg (by decide)]
   have nn:w≠("none" : Str):=fun z=>hw.no (by rw [←z];exact hw')
   rw [if_neg nn]
   exact hN _ _ ⟨_,rfl,s4.trans s5⟩
 · rintro σ H4 ⟨v,rfl,s4⟩
   (try walk_at "rd")
   exact q p1 _ hp1 (((s1.trans s2).trans s3).trans s4) (s4 _ _ a1'')
abbrev qbK:Stmt:=top 31
theorem qeG:qan ["words", "word"] ["words", "word"] (qad qbK):=⟨rfl,rfl,rfl,by decide +kernel,rfl,by decide +kernel,by decide +kernel⟩
def qdj (K:W.Frag):Sp:=sp2 fun x y H Q=>∃(p:Addr) (ws:List Str) (w:Str),x = .ref p∧H p=some (.lst (sV ws))∧ws.length≤8∧y = .str w∧w∈ws∧Q (.int (ws.idxOf w:Nat)) H
theorem qhF {f:Addr} {fd:FuncData} (F:Fun K "read_name" "read_name" qbK f fd) (T:Txt mg)  : qaZ P w K mg base CX0 1 f fd ["words", "word"] (qdj K):=by
 have sc:=qeG
 refine F.ok qeG (fun vs H Q E h=>by obtain ⟨_,_,rfl,_⟩:=h;rfl) (fun cdv A outer s H vs Q E hr h=>?_)
 obtain ⟨x0,x1,rfl,h⟩:=h
 refine ⟨_,(qab (qaA (qaj (qfi (K:=K) rfl) (pv 1) (pv 0) (by with_unfolding_all rfl)) (qae qbj) qak)
   (qae (qah (qjx (K:=K) rfl PySem.F.plainAttrs_list PySem.F.slot_list_index PySem.F.type_list_index qd8 (pv 0) (qaa (pv 1) qac))))),?_⟩
 refine rdg (σ':=[some x0,some x1]) rfl ?_
 obtain ⟨p,ws,w,rfl,f1,hl,rfl,hw,q⟩:=h
 walk_at "rd"
 refine ⟨_,.inl (SqL.of f1),rfl,qc8 _,false,by rw [qpO];simpa using hw,?_⟩
 rw [if_neg (by decide)]
 exact ⟨.inl ⟨rfl,_,SqL.of f1⟩,p,ws,w,rfl,rfl,f1,hw,by omega,q⟩
abbrev qb6:Stmt:=top 27
theorem qe4:qan ["words", "one"] ["words", "one"] (qad qb6):=⟨rfl,rfl,rfl,by decide +kernel,rfl,by decide +kernel,by decide +kernel⟩
def qcZ (K:W.Frag):Sp:=sp2 fun x y H Q=>∃(p:Addr) (ws:List Str) (a:Nat),x = .ref p∧H p=some (.lst (sV ws))∧Tx.Wds ws∧y = .int (a:Nat)∧a<2^ws.length∧∀H',qau H H'→Q (.str (Tx.sT ws a)) H'
theorem qiJ {f:Addr} {fd:FuncData} (F:Fun K "show_set" "show_set" qb6 f fd) (T:Txt mg) {f_38:Addr} {fd_38:FuncData} (C_38:Cal P w K mg base "names_in" 1 ["one"] qd9 f_38 fd_38):qaZ P w K mg base CX0 2 f fd ["words", "one"] (qcZ K):=by
 have sc:=qe4
 refine F.ok qe4 (fun vs H Q E h=>by obtain ⟨_,_,rfl,_⟩:=h;rfl) (fun cdv A outer s H vs Q E hr h=>?_)
 obtain ⟨x0,x1,rfl,h⟩:=h
 refine ⟨_,(qab (qaA (qaj (qay (K:=K) rfl hr.units0) (pv 1) qaf (qao _)) (qae (qah (qdc T.c_NO_NAMES (by rfl)))) qak)
   (qae (qah (qbp PySem.F.plainAttrs_str PySem.F.slot_str_join PySem.F.type_str_join (qbP (K:=K) rfl) qag (qaa (qaQ (N:=["k", "words"]) (nt:=1) (caps:=[0]) qaF rfl (qaM (qap C_38 hr (by decide) (by rfl) (qaa (pv 1) qac))) (fun _ _ _ _ _=>(qas (i:=0) (show List.Nodup (α:=Str) ["k", "words"] from by decide +kernel) rfl (Or.inl rfl))) qaJ (fun _ _ _ _ _=>qaY) (fun _ _ _ _ _=>(qaE (qbF (K:=K) rfl) (pv 1) (pv 0) (fun _ _=>rfl)))) qac))))),?_⟩
 refine rdg (σ':=[some x0,some x1]) rfl ?_
 obtain ⟨p,ws,a,rfl,f1,hw,rfl,ha,q⟩:=h
 walk_at "rd"
 by_cases h0:a=0
 · rw [if_pos (by omega)]
   rw [show Tx.sT ws a = "-" from if_pos h0] at q
   exact q _ (qau.refl _)
 rw [if_neg (by omega)]
 rw [show Tx.sT ws a=Txt.join "+" (Tx.wds ws a) from if_neg h0] at q
 refine ⟨rfl,_,rfl,a,rfl,Tx.lt256 hw ha,fun H1 p1 s1 hp1=>?_⟩
 generalize g1:upd H1 p1 _=G1
 have a1:=qaw g1
 have s1:=s1.trans (qar g1 hp1)
 have l8:(Fam.nms 8 a).length≤8:=Nat.le_trans (List.length_filter_le _ _) (by simp)
 refine ⟨p1,rfl,⟨_,SqL.of a1⟩,qcX (fs:=Fam.nms 8 a) (fun _=>true) (fun k => .str (ws.getD k Str.empty)) (SqL.of a1) (by omega) (fun k hk H2 s2 R R' r1 r2=>?_) fun H2 p2 s2 hp2=>?_⟩
 · (try walk_at "rd")
   have hl:=Tx.nms_lt ha hk
   exact qaT (SqL.of (s2 _ _ (s1 _ _ f1))) (qc3 (w:=ws.getD k Str.empty) (by rw [List.getD_eq_getElem?_getD,List.getElem?_eq_getElem hl];rfl)) (r1 rfl _ (qau.refl _))
 · rw [List.filter_eq_self.mpr fun _ _=>rfl]
   have ew:(Fam.nms 8 a).map (fun k=>V.str (ws.getD k Str.empty))=sV (Tx.wds ws a):=by
     show _=List.map V.str (List.map _ _)
     rw [List.map_map]
     rfl
   rw [ew]
   refine ⟨_,p2,Tx.wds ws a,rfl,rfl,SqL.of qai,qa2 (M:=8) (N:=8) (fun y hy=>(hw.wd y (Tx.wds_mem hw ha hy)).2.1) (by unfold Tx.wds;rw [List.length_map];exact l8) (by rw [Tx.lit_plus];decide) (by decide),q _ ((s1.trans s2).trans (qau.new hp2))⟩
abbrev qbk:Stmt:=top 28
theorem qdx:qan ["words", "family"] ["words", "family"] (qad qbk):=⟨rfl,rfl,rfl,by decide +kernel,rfl,by decide +kernel,by decide +kernel⟩
def qe8 (K:W.Frag):Sp:=sp2 fun x y H Q=>∃(p p2:Addr) (ws:List Str) (fs:List Nat),x = .ref p∧H p=some (.lst (sV ws))∧Tx.Wds ws∧y = .ref p2∧H p2=some (.lst (nV fs))∧(∀b∈fs,b<2^ws.length)∧fs.length≤70∧∀H',qau H H'→Q (.str (Tx.fT ws fs)) H'
theorem qf8 {f:Addr} {fd:FuncData} (F:Fun K "show_family" "show_family" qbk f fd) (T:Txt mg) {f_39:Addr} {fd_39:FuncData} (C_39:Cal P w K mg base "show_set" 2 ["words", "one"] (qcZ K) f_39 fd_39):qaZ P w K mg base CX0 3 f fd ["words", "family"] (qe8 K):=by
 have sc:=qdx
 refine F.ok qdx (fun vs H Q E h=>by obtain ⟨_,_,rfl,_⟩:=h;rfl) (fun cdv A outer s H vs Q E hr h=>?_)
 obtain ⟨x0,x1,rfl,h⟩:=h
 refine ⟨_,(qab (qaA (qaj (qay (K:=K) rfl hr.units0) (qaB (qaN (K:=K) rfl) (by rfl) T.n_len PySem.boot_len (qaa (pv 1) qac)) qaf (qao _)) (qae (qah (qdc T.c_NO_SETS (by rfl)))) qak)
   (qae (qah (qbp PySem.F.plainAttrs_str PySem.F.slot_str_join PySem.F.type_str_join (qbP (K:=K) rfl) qag (qaa (qaQ (N:=["one", "words"]) (nt:=1) (caps:=[0]) qaF rfl (qaM (pv 1)) (fun _ _ _ _ _=>(qas (i:=0) (show List.Nodup (α:=Str) ["one", "words"] from by decide +kernel) rfl (Or.inl rfl))) qaJ (fun _ _ _ _ _=>qaY) (fun _ _ _ _ _=>(qap C_39 hr (by decide) (by rfl) (qaa (pv 1) (qaa (pv 0) qac))))) qac))))),?_⟩
 refine rdg (σ':=[some x0,some x1]) rfl ?_
 obtain ⟨p,p2,ws,fs,rfl,f1,hw,rfl,f2,hb,hl,q⟩:=h
 walk_at "rd"
 refine ⟨_,.inl (SqL.of f2),?_⟩
 rw [qbz]
 by_cases h0:fs=[]
 · rw [if_pos (by rw [h0];rfl)]
   rw [show Tx.fT ws fs = "none" from if_pos h0] at q
   exact q _ (qau.refl _)
 have hn:0<fs.length:=List.length_pos_iff.mpr h0
 rw [if_neg (by omega)]
 rw [show Tx.fT ws fs=Txt.join " " (fs.map (Tx.sT ws)) from if_neg h0] at q
 refine ⟨rfl,⟨_,SqL.of f2⟩,qcX (fs:=fs) (fun _=>true) (fun b => .str (Tx.sT ws b)) (SqL.of f2) (by omega) (fun b hb' H2 s2 R R' r1 r2=>?_) fun H2 p3 s2 hp3=>?_⟩
 · (try walk_at "rd")
   exact ⟨_,_,rfl,p,ws,b,rfl,s2 _ _ f1,hw,rfl,hb b hb',fun H3 s3=>r1 rfl _ s3⟩
 · rw [List.filter_eq_self.mpr fun _ _=>rfl]
   have ew:fs.map (fun b=>V.str (Tx.sT ws b))=sV (fs.map (Tx.sT ws)):=by
     show _=List.map V.str (List.map _ _)
     rw [List.map_map]
     rfl
   rw [ew]
   refine ⟨_,p3,fs.map (Tx.sT ws),rfl,rfl,SqL.of qai,qa2 (M:=72) (N:=70) (fun y hy=>?_) (by rw [List.length_map];exact hl) (by rw [Tx.lit_space];decide) (by decide),q _ (s2.trans (qau.new hp3))⟩
   obtain ⟨b,hb',rfl⟩:=List.mem_map.mp hy
   exact Tx.sT_len hw (hb b hb')
abbrev qb7:Stmt:=top 29
theorem qe3:qan ["words", "text", "parts", "names"] ["words", "text"] (qad qb7):=⟨rfl,rfl,rfl,by decide +kernel,rfl,by decide +kernel,by decide +kernel⟩
def qdI (K:W.Frag):Sp:=sp2 fun x y H Q=>∃(p:Addr) (ws:List Str) (a:Nat),x = .ref p∧H p=some (.lst (sV ws))∧Tx.Wds ws∧y = .str (Tx.sT ws a)∧a<2^ws.length∧∀H',qau H H'→Q (.int (a:Nat)) H'
theorem qiH {f:Addr} {fd:FuncData} (F:Fun K "read_set" "read_set" qb7 f fd) (T:Txt mg) {f_50:Addr} {fd_50:FuncData} (C_50:Cal P w K mg base "parted" 1 ["text", "sign"] qdW f_50 fd_50) {f_49:Addr} {fd_49:FuncData} (C_49:Cal P w K mg base "set_of" 1 ["names"] (qit K) f_49 fd_49) {f_31:Addr} {fd_31:FuncData} (C_31:Cal P w K mg base "read_name" 1 ["words", "word"] (qdj K) f_31 fd_31):qaZ P w K mg base CX0 2 f fd ["words", "text"] (qdI K):=by
 have sc:=qe3
 refine F.ok qe3 (fun vs H Q E h=>by obtain ⟨_,_,rfl,_⟩:=h;rfl) (fun cdv A outer s H vs Q E hr h=>?_)
 obtain ⟨x0,x1,rfl,h⟩:=h
 refine ⟨_,(qab (qax (i:=2) sc.nd rfl (Or.inl rfl) (qap C_50 hr (by decide) (by rfl) (qaa (pv 1) (qaa qag qac))))
   (qab (qaA (qaj (qay (K:=K) rfl hr.units0) (pv 2) (qa7 (qaa (qdc T.c_NO_NAMES (by rfl)) qac)) (qao _)) (qae (qah qaf)) qak)
   (qab (qed (i:=3) sc.nd rfl rfl (by rfl) (N:=["word", "words"]) (nt:=1) (caps:=[0]) qaF rfl (qaM (pv 2)) (fun _ _ _ _ _=>(qas (i:=0) (show List.Nodup (α:=Str) ["word", "words"] from by decide +kernel) rfl (Or.inl rfl))) qaJ (fun _ _ _ _ _=>qaY) (fun _ _ _ _ _=>(qap C_31 hr (by decide) (by rfl) (qaa (pv 1) (qaa (pv 0) qac)))))
   (qab (qaA (qaj (qbC (K:=K) rfl hr.units0) (pv 3) (qaB (qej (P:=P) (w:=w) (K:=K) rfl rfl rfl rfl) (by rfl) T.n_sorted PyProof.Rows.boot_sorted (qaa (qck (qfC (P:=P) (w:=w) (K:=K) rfl rfl rfl rfl) (by rfl) T.n_set PyProof.Rows.boot_set (qaa (pv 3) qac)) qac)) (qao _)) (qae qbj) qak)
   (qae (qah (qap C_49 hr (by decide) (by rfl) (qaa (pv 3) qac)))))))),?_⟩
 refine rdg (σ':=[some x0,some x1,none,none]) rfl ?_
 obtain ⟨p,ws,a,rfl,f1,hw,rfl,ha,q⟩:=h
 walk_at "rd"
 refine ⟨_,_,rfl,_,_,rfl,rfl,by rw [Tx.lit_plus];rfl,by have:=Tx.sT_len hw ha;omega,fun p1 G1 hp1 s1 a1=>?_⟩
 rw [Tx.split_sT hw ha] at a1
 (try walk_at "rd")
 refine ⟨qaC (by simp),fun p2 hp2=>?_⟩
 generalize g2:upd G1 p2 _=G2
 have a2:G2 p2=some (.lst (sV [("-" : Str)])):=qaw g2
 have s2:=qar g2 hp2
 have a1:=s2 _ _ a1
 have s12:=s1.trans s2
 refine qg5 (SqL.of a1) (SqL.of a2) (qc8 _) (qc8 _) ?_
 rw [qhS]
 by_cases h0:a=0
 · rw [if_pos h0]
   refine ⟨true,by simp,qeT ?_⟩
   subst h0
   exact q _ s12
 rw [if_neg h0] at a1 ⊢
 have nd:Tx.wds ws a≠[("-" : Str)]:=fun z=>by
   have hm:=hw.wd "-" (Tx.wds_mem hw ha (by rw [z];exact List.mem_cons_self))
   have:=hm.2.2 45 (by rw [Tx.lit_dash];exact List.mem_cons_self)
   omega
 refine ⟨false,by simpa using nd,qcp ?_⟩
 have l8:(Fam.nms 8 a).length≤8:=Nat.le_trans (List.length_filter_le _ _) (by simp)
 have lw:(Tx.wds ws a).length≤8:=by unfold Tx.wds;rw [List.length_map];exact l8
 refine ⟨⟨_,SqL.of a1⟩,qk0 (fs:=sV (Tx.wds ws a)) (fun _=>true) (fun v=>match v with | .str w => .int (ws.idxOf w:Nat) | _ => .non) (SqL.of a1) (by rw [qaS];omega) (fun x hx H3 s3 R R' r1 r2=>?_) fun H3 p3 s3 hp3=>?_⟩
 · obtain ⟨w,hw',rfl⟩:=List.mem_map.mp hx
   (try walk_at "rd")
   exact ⟨_,_,rfl,p,ws,w,rfl,s3 _ _ (s12 _ _ f1),hw.few,rfl,Tx.wds_mem hw ha hw',r1 rfl _ (qau.refl _)⟩
 have en:((sV (Tx.wds ws a)).filter fun _=>true).map (fun v=>match v with | .str w=>V.int (ws.idxOf w:Nat) | _ => .non)=nV (Fam.nms 8 a):=by
   rw [List.filter_eq_self.mpr fun _ _=>rfl,←Tx.idx_wds hw ha,List.map_map]
   unfold nV nI
   rw [List.map_map,List.map_map]
   rfl
 rw [en]
 generalize g3:upd H3 p3 _=G3
 have a3:=qaw g3
 have s3':=(s12.trans s3).trans (qar g3 hp3)
 refine ⟨p3,_,rfl,SqL.of a3,by rw [nI,List.length_map];omega,fun p4 hp4=>?_⟩
 generalize g4:upd G3 p4 _=G4
 have a4:=qaw g4
 have a3:=qar g4 hp4 _ _ a3
 have s4:=s3'.trans (qar g4 hp4)
 refine ⟨p4,_,rfl,.inr a4,Nat.le_trans (qea _) (by rw [nI,List.length_map];omega),fun p5 ms hp5 m1 m2=>?_⟩
 rw [qfP m1 m2,qpm (Fam.nms_rise 8 a)]
 generalize g5:upd G4 p5 _=G5
 have a5:=qaw g5
 have a3:=qar g5 hp5 _ _ a3
 have s5:=s4.trans (qar g5 hp5)
 refine qqf (SqL.of a3) (SqL.of a5) (qc4 _) (qc4 _) ⟨false,by rw [qgk];simp,qcp ?_⟩
 refine ⟨_,rfl,p3,_,rfl,SqL.of a3,fun k hk=>(Fam.mem_nms.mp hk).1,?_⟩
 rw [Fam.ofN_nms (n:=8) (Tx.lt256 hw ha)]
 exact q _ s5
abbrev qbf:Stmt:=top 30
theorem qds:qan ["words", "text", "parts", "family"] ["words", "text"] (qad qbf):=⟨rfl,rfl,rfl,by decide +kernel,rfl,by decide +kernel,by decide +kernel⟩
theorem qnt {m:Nat}:∀(fs:List Nat) (b:Int),(∀x∈fs,b<(x:Int))→fs.Pairwise (· < ·)→(∀x∈fs,x<2^m)→qmp m b (nV fs)=true
 | [],_,_,_,_=>rfl
 | x::r,b,h1,h2,h3=>by
   have h2:=List.pairwise_cons.mp h2
   have h4:=h3 x List.mem_cons_self
   show (decide (0≤(x:Int))&&decide ((x:Int)<(2^m:Nat))&&decide (b<(x:Int))&&qmp m (x:Int) (nV r))=true
   rw [decide_eq_true (by omega),decide_eq_true (by omega),decide_eq_true (h1 x List.mem_cons_self),qnt r x (fun y hy=>by have:=h2.1 y hy;omega) h2.2 fun y hy=>h3 y (List.mem_cons_of_mem _ hy)]
   rfl
def qf0 (K:W.Frag):Sp:=sp2 fun x y H Q=>∃(p:Addr) (ws:List Str) (fs:List Nat),x = .ref p∧H p=some (.lst (sV ws))∧Tx.Wds ws∧y = .str (Tx.fT ws fs)∧(∀b∈fs,b<2^ws.length)∧fs.Pairwise (· < ·)∧fs.length≤70∧∀p' H',H p'=none→qau H H'→H' p'=some (.lst (nV fs))→Q (.ref p') H'
theorem qf7 {f:Addr} {fd:FuncData} (F:Fun K "read_family" "read_family" qbf f fd) (T:Txt mg) {f_50:Addr} {fd_50:FuncData} (C_50:Cal P w K mg base "parted" 1 ["text", "sign"] qdW f_50 fd_50) {f_40:Addr} {fd_40:FuncData} (C_40:Cal P w K mg base "read_set" 2 ["words", "text"] (qdI K) f_40 fd_40) {f_30:Addr} {fd_30:FuncData} (C_30:Cal P w K mg base "is_family" 3 ["many", "thing"] (qi6 K) f_30 fd_30):qaZ P w K mg base CX0 4 f fd ["words", "text"] (qf0 K):=by
 have sc:=qds
 refine F.ok qds (fun vs H Q E h=>by obtain ⟨_,_,rfl,_⟩:=h;rfl) (fun cdv A outer s H vs Q E hr h=>?_)
 obtain ⟨x0,x1,rfl,h⟩:=h
 refine ⟨_,(qab (qax (i:=2) sc.nd rfl (Or.inl rfl) (qap C_50 hr (by decide) (by rfl) (qaa (pv 1) (qaa qag qac))))
   (qab (qaA (qaj (qay (K:=K) rfl hr.units0) (pv 2) (qa7 (qaa (qdc T.c_NO_SETS (by rfl)) qac)) (qao _)) (qae (qah (qa7 qac))) qak)
   (qab (qed (i:=3) sc.nd rfl rfl (by rfl) (N:=["part", "words"]) (nt:=1) (caps:=[0]) qaF rfl (qaM (pv 2)) (fun _ _ _ _ _=>(qas (i:=0) (show List.Nodup (α:=Str) ["part", "words"] from by decide +kernel) rfl (Or.inl rfl))) qaJ (fun _ _ _ _ _=>qaY) (fun _ _ _ _ _=>(qap C_40 hr (by decide) (by rfl) (qaa (pv 1) (qaa (pv 0) qac)))))
   (qab (qaA (qb4 (qbn (qap C_30 hr (by decide) (by rfl) (qaa (qaB (qaN (K:=K) rfl) (by rfl) T.n_len PySem.boot_len (qaa (pv 0) qac)) (qaa (pv 3) qac))))) (qae qbj) qak)
   (qae (qah (pv 3))))))),?_⟩
 refine rdg (σ':=[some x0,some x1,none,none]) rfl ?_
 obtain ⟨p,ws,fs,rfl,f1,hw,rfl,hb,hr,hl,q⟩:=h
 walk_at "rd"
 refine ⟨_,_,rfl,_,_,rfl,rfl,by rw [Tx.lit_space];rfl,by have:=Tx.fT_len hw hb (by omega);omega,fun p1 G1 hp1 s1 a1=>?_⟩
 rw [Tx.split_fT hw hb] at a1
 (try walk_at "rd")
 refine ⟨qaC (by simp),fun p2 hp2=>?_⟩
 generalize g2:upd G1 p2 _=G2
 have a2:G2 p2=some (.lst (sV [("none" : Str)])):=qaw g2
 have s2:=qar g2 hp2
 have a1:=s2 _ _ a1
 have s12:=s1.trans s2
 refine qg5 (SqL.of a1) (SqL.of a2) (qc8 _) (qc8 _) ?_
 rw [qhS]
 by_cases h0:fs=[]
 · rw [if_pos h0]
   refine ⟨true,by simp,qeT ⟨qaC (by simp),fun p3 hp3=>?_⟩⟩
   subst h0
   exact q _ _ (qaD s12 hp3) (s12.trans (qau.new hp3)) qai
 rw [if_neg h0] at a1 ⊢
 have ne:fs.map (Tx.sT ws)≠[("none" : Str)]:=fun z=>by
   have hm:("none" : Str)∈fs.map (Tx.sT ws):=by rw [z];exact List.mem_cons_self
   obtain ⟨b,hb',e⟩:=List.mem_map.mp hm
   exact Tx.sT_none hw (hb b hb') e
 refine ⟨false,by simpa using ne,qcp ?_⟩
 have lz:(sV (fs.map (Tx.sT ws))).length=fs.length:=by rw [qaS,List.length_map]
 refine ⟨⟨_,SqL.of a1⟩,qhQ (xs:=sV (fs.map (Tx.sT ws))) (fun i ys H3=>qau G2 H3∧ys=nV (fs.take i)) ⟨qau.refl _,rfl⟩ (by rw [lz];exact qaC (by omega)) (fun i ys H3 hi ⟨s,e⟩=>⟨SqL.of (s _ _ a1),by rw [e,qbz,List.length_take];omega⟩) (fun i x ys H3 hx ⟨s3,e3⟩ R R' r1 r2=>?_) fun ys H3 ⟨s3,e3⟩ p3 hp3=>?_⟩
 · rw [List.getElem?_map,List.getElem?_map] at hx
   cases eb:fs[i]? with
   | none=>rw [eb] at hx;cases hx
   | some b =>
     rw [eb] at hx
     cases hx
     (try walk_at "rd")
     refine ⟨_,_,rfl,p,ws,b,rfl,s3 _ _ (s12 _ _ f1),hw,rfl,hb b (List.mem_of_getElem? eb),fun H4 s4=>r1 _ _ ⟨s3.trans s4,?_⟩⟩
     rw [e3,List.take_add_one,eb]
     simp [nV,nI]
 rw [lz,List.take_length] at e3
 subst e3
 generalize g3:upd H3 p3 _=G3
 have a3:=qaw g3
 have s4:=(s12.trans s3).trans (qar g3 hp3)
 refine ⟨_,.inl (SqL.of (s4 _ _ f1)),?_⟩
 rw [qaS]
 refine ⟨_,_,rfl,ws.length,rfl,hw.few,.inl ⟨p3,nV fs,rfl,a3,by rw [qbz];omega,fun x hx=>?_,?_⟩⟩
 · obtain ⟨b,_,rfl⟩:=qnk hx
   exact ⟨"int",rfl⟩
 rw [qnt fs (-1) (fun x _=>by omega) hr hb,qbz,decide_eq_true (show fs.length≤70 from hl)]
 refine ⟨true,rfl,?_⟩
 rw [if_neg (by decide)]
 exact q p3 _ (qaD (s12.trans s3) hp3) s4 a3
abbrev qen:Stmt:=top 13
theorem qjm:qan ["one", "other"] ["one", "other"] (qad qen):=⟨rfl,rfl,rfl,by decide +kernel,rfl,by decide +kernel,by decide +kernel⟩
def qiX:Sp:=sp2 fun x y H Q=>∃a b:Nat,x = .int a∧y = .int b∧Q (.bl (decide (Fam.sub b a))) H
theorem qm3 {f:Addr} {fd:FuncData} (F:Fun K "holds" "holds" qen f fd) (T:Txt mg)  : qaZ P w K mg base CX0 1 f fd ["one", "other"] qiX:=by
 have sc:=qjm
 refine F.ok qjm (fun vs H Q E h=>by obtain ⟨_,_,rfl,_⟩:=h;rfl) (fun cdv A outer s H vs Q E hr h=>?_)
 obtain ⟨x0,x1,rfl,h⟩:=h
 refine ⟨_,(qae (qah (qb1 (qay (K:=K) rfl hr.units0) (qaq qcz (pv 0) (pv 1)) (pv 1) (qao _)))),?_⟩
 refine rdg (σ':=[some x0,some x1]) rfl ?_
 obtain ⟨a,b,rfl,rfl,q⟩:=h
 walk_at "rd"
 rw [qb3,show decide (((a&&&b:Nat):Int)=(b:Int))=decide (Fam.sub b a) from decide_eq_decide.mpr (by unfold Fam.sub;omega)]
 exact q
abbrev qei:Stmt:=top 14
theorem qjr:qan ["one", "other"] ["one", "other"] (qad qei):=⟨rfl,rfl,rfl,by decide +kernel,rfl,by decide +kernel,by decide +kernel⟩
def qgG:Sp:=sp2 fun x y H Q=>∃a b:Nat,x = .int a∧y = .int b∧Q (.bl (decide (Fam.mt a b))) H
theorem qmu {f:Addr} {fd:FuncData} (F:Fun K "meets" "meets" qei f fd) (T:Txt mg)  : qaZ P w K mg base CX0 1 f fd ["one", "other"] qgG:=by
 have sc:=qjr
 refine F.ok qjr (fun vs H Q E h=>by obtain ⟨_,_,rfl,_⟩:=h;rfl) (fun cdv A outer s H vs Q E hr h=>?_)
 obtain ⟨x0,x1,rfl,h⟩:=h
 refine ⟨_,(qae (qah (qb1 (qbC (K:=K) rfl hr.units0) (qaq qcz (pv 0) (pv 1)) qaf (qao _)))),?_⟩
 refine rdg (σ':=[some x0,some x1]) rfl ?_
 obtain ⟨a,b,rfl,rfl,q⟩:=h
 walk_at "rd"
 rw [qb3,show (!decide (((a&&&b:Nat):Int)=0))=decide (Fam.mt a b) from by
   rw [←decide_not]
   exact decide_eq_decide.mpr (by unfold Fam.mt;omega)]
 exact q
abbrev qgD:Stmt:=top 15
theorem qkS:qan ["many", "one", "whole_ground"] ["many", "one"] (qad qgD):=⟨rfl,rfl,rfl,by decide +kernel,rfl,by decide +kernel,by decide +kernel⟩
def qlC:Sp:=sp2 fun x y H Q=>∃m a:Nat,x = .int m∧y = .int a∧m≤8∧a<2^m∧Q (.int (Fam.rst m a:Nat)) H
theorem qov {m a:Nat} (h:a<2^m):Builtin.bitAnd (1*2^(m:Int).toNat-1) (Builtin.bitNot a)=((Fam.rst m a:Nat):Int):=by
 rw [Int.one_mul,Int.toNat_natCast,qhh,bitAnd_not]
 have e:(((2^m:Nat):Int)-1)=((2^m-1:Nat):Int):=by have:=Nat.two_pow_pos m;omega
 rw [e,qb3,Nat.and_comm,Nat.and_two_pow_sub_one_eq_mod,Nat.mod_eq_of_lt h]
 unfold Fam.rst
 omega
theorem qo6 {f:Addr} {fd:FuncData} (F:Fun K "rest" "rest" qgD f fd) (T:Txt mg)  : qaZ P w K mg base CX0 1 f fd ["many", "one"] qlC:=by
 have sc:=qkS
 refine F.ok qkS (fun vs H Q E h=>by obtain ⟨_,_,rfl,_⟩:=h;rfl) (fun cdv A outer s H vs Q E hr h=>?_)
 obtain ⟨x0,x1,rfl,h⟩:=h
 refine ⟨_,(qab (qax (i:=2) sc.nd rfl (Or.inl rfl) (qaq qjq (qaq qbx qaf (pv 0)) qaf))
   (qae (qah (qaq qcz (pv 2) (qp7 qpD (pv 1)))))),?_⟩
 refine rdg (σ':=[some x0,some x1,none]) rfl ?_
 obtain ⟨m,a,rfl,rfl,hm,ha,q⟩:=h
 walk_at "rd"
 refine ⟨qaW (by omega) (by omega) (by decide) (by decide),?_⟩
 rw [qov ha]
 exact q
abbrev qgu:Stmt:=top 20
theorem qkU:qan ["family", "one", "other"] ["family", "one"] (qad qgu):=⟨rfl,rfl,rfl,by decide +kernel,rfl,by decide +kernel,by decide +kernel⟩
def qgg (K:W.Frag):Sp:=sp2 fun x y H Q=>∃(p:Addr) (fs:List Nat) (a:Nat),x = .ref p∧SqL K H p (nV fs)∧y = .int a∧Q (.bl (Fam.sayP fs a)) H
theorem qnT {α:Type} {fs:List α} {f:α→Bool} {i:Nat} {b:α} (h:fs[i]?=some b) (hb:f b=true):fs.any f=true:=List.any_eq_true.mpr ⟨b,List.mem_of_getElem? h,hb⟩
theorem qm0 {α:Type} {fs:List α} {f:α→Bool} {i:Nat} {b:α} (h:fs[i]?=some b) (h0:(fs.take i).any f=false) (hb:f b=false):(fs.take (i+1)).any f=false:=by
 rw [List.take_add_one,h,List.any_append,h0]
 simpa using hb
theorem qoa {f:Addr} {fd:FuncData} (F:Fun K "says" "says" qgu f fd) (T:Txt mg) {f_54:Addr} {fd_54:FuncData} (C_54:Cal P w K mg base "holds" 1 ["one", "other"] qiX f_54 fd_54):qaZ P w K mg base CX0 2 f fd ["family", "one"] (qgg K):=by
 have sc:=qkU
 refine F.ok qkU (fun vs H Q E h=>by obtain ⟨_,_,rfl,_⟩:=h;rfl) (fun cdv A outer s H vs Q E hr h=>?_)
 obtain ⟨x0,x1,rfl,h⟩:=h
 refine ⟨_,(qab (qbo PassesOwn.never rfl (qaM (pv 0)) (qas (i:=2) sc.nd rfl (Or.inl rfl)) (qae (qaA (qbn (qap C_54 hr (by decide) (by rfl) (qaa (pv 1) (qaa (pv 2) qac)))) (qae (qah qcH)) qak)))
   (qae (qah qcH))),?_⟩
 refine rdg (σ':=[some x0,some x1,none]) rfl ?_
 obtain ⟨p,fs,a,rfl,hq,rfl,q⟩:=h
 walk_at "rd"
 refine ⟨⟨_,hq⟩,qfQ (fun i σ H'=>∃v,σ=[some (.ref p),some (.int a),v]∧H'=H∧(fs.take i).any (fun b=>decide (Fam.sub b a))=false) ⟨none,rfl,rfl,rfl⟩ (fun i σ H' _ ⟨v,_,e,_⟩=>e▸hq) ?_ ?_⟩
 · rintro i b σ H' hb ⟨v,rfl,rfl,h0⟩ N hN
   (try walk_at "rd")
   refine ⟨_,_,rfl,a,b,rfl,rfl,_,rfl,qkQ (fun hc=>?_) fun hc=>hN _ _ ⟨_,rfl,rfl,qm0 hb h0 hc⟩⟩
   rw [show Fam.sayP fs a=true from qnT hb hc] at q
   exact q
 · rintro σ H' ⟨v,rfl,rfl,h0⟩
   rw [List.take_length] at h0
   rw [show Fam.sayP fs a=false from h0] at q
   exact q
abbrev qef:Stmt:=top 19
theorem qmA:qan ["some", "found", "one"] ["some"] (qad qef):=⟨rfl,rfl,rfl,by decide +kernel,rfl,by decide +kernel,by decide +kernel⟩
theorem qmw {f:Addr} {fd:FuncData} (F:Fun K "least" "least" qef f fd) (T:Txt mg):qaZ P w K mg base CX0 1 f fd ["some"] qfE:=F.ok qmA (fun vs H Q E h=>absurd h id) (fun cdv A outer s H vs Q E hr h=>absurd h id)
abbrev qeo:Stmt:=top 21
theorem qng:qan ["many", "family"] ["many", "family"] (qad qeo):=⟨rfl,rfl,rfl,by decide +kernel,rfl,by decide +kernel,by decide +kernel⟩
theorem qml {f:Addr} {fd:FuncData} (F:Fun K "rests" "rests" qeo f fd) (T:Txt mg):qaZ P w K mg base CX0 1 f fd ["many", "family"] qfE:=F.ok qng (fun vs H Q E h=>absurd h id) (fun cdv A outer s H vs Q E hr h=>absurd h id)
abbrev qbb:Stmt:=top 44
theorem qc9:qan ["family", "one", "other"] ["family", "one"] (qad qbb):=⟨rfl,rfl,rfl,by decide +kernel,rfl,by decide +kernel,by decide +kernel⟩
def oV (o:Option Nat):V:=match o with | some b => .int (b:Nat) | none => .non
def qfk (K:W.Frag):Sp:=sp2 fun x y H Q=>∃(p:Addr) (fs:List Nat) (a:Nat),x = .ref p∧SqL K H p (nV fs)∧y = .int a∧Q (oV (fs.find? fun b=>!decide (Fam.mt a b))) H
theorem qdS {fs:List Nat} {f:Nat→Bool} {i b:Nat} (h:fs[i]?=some b) (h0:(fs.take i).find? f=none) (hb:f b=false):(fs.take (i+1)).find? f=none:=by
 rw [List.take_add_one,h,List.find?_append,h0]
 simp [hb]
theorem qdU {fs:List Nat} {f:Nat→Bool} {i b:Nat} (h:fs[i]?=some b) (h0:(fs.take i).find? f=none) (hb:f b=true):fs.find? f=some b:=by
 have e:fs=fs.take i++b::fs.drop (i+1):=by
   have hi:=(List.getElem?_eq_some_iff.mp h).1
   have:=List.take_append_drop i fs
   rw [List.drop_eq_getElem_cons hi] at this
   rw [(List.getElem?_eq_some_iff.mp h).2] at this
   exact this.symm
 rw [e,List.find?_append,h0]
 simp [hb]
theorem qfx {f:Addr} {fd:FuncData} (F:Fun K "first_missed" "first_missed" qbb f fd) (T:Txt mg) {f_55:Addr} {fd_55:FuncData} (C_55:Cal P w K mg base "meets" 1 ["one", "other"] qgG f_55 fd_55):qaZ P w K mg base CX0 2 f fd ["family", "one"] (qfk K):=by
 have sc:=qc9
 refine F.ok qc9 (fun vs H Q E h=>by obtain ⟨_,_,rfl,_⟩:=h;rfl) (fun cdv A outer s H vs Q E hr h=>?_)
 obtain ⟨x0,x1,rfl,h⟩:=h
 refine ⟨_,(qab (qbo PassesOwn.never rfl (qaM (pv 0)) (qas (i:=2) sc.nd rfl (Or.inl rfl)) (qae (qaA (qb4 (qbn (qap C_55 hr (by decide) (by rfl) (qaa (pv 1) (qaa (pv 2) qac))))) (qae (qah (pv 2))) qak)))
   (qae (qah qcG))),?_⟩
 refine rdg (σ':=[some x0,some x1,none]) rfl ?_
 obtain ⟨p,fs,a,rfl,hq,rfl,q⟩:=h
 walk_at "rd"
 refine ⟨⟨_,hq⟩,qfQ (fun i σ H'=>∃v,σ=[some (.ref p),some (.int a),v]∧H'=H∧(fs.take i).find? (fun b=>!decide (Fam.mt a b))=none) ⟨none,rfl,rfl,rfl⟩ (fun i σ H' _ ⟨v,_,e,_⟩=>e▸hq) ?_ ?_⟩
 · rintro i b σ H' hb ⟨v,rfl,rfl,h0⟩ N hN
   (try walk_at "rd")
   refine ⟨_,_,rfl,a,b,rfl,rfl,_,rfl,?_⟩
   cases hc:decide (Fam.mt a b) with
   | true =>
     rw [if_neg (by decide)]
     exact hN _ _ ⟨_,rfl,rfl,qdS hb h0 (by rw [hc];rfl)⟩
   | false =>
     rw [if_pos rfl]
     rw [qdU hb h0 (by rw [hc];rfl)] at q
     exact q
 · rintro σ H' ⟨v,rfl,rfl,h0⟩
   rw [List.take_length] at h0
   rw [h0] at q
   exact q
abbrev qgv:Stmt:=top 42
theorem qlm:qan ["many", "family", "found", "one"] ["many", "family"] (qad qgv):=⟨rfl,rfl,rfl,by decide +kernel,rfl,by decide +kernel,by decide +kernel⟩
theorem qgK (fs:List Nat) (a:Nat):(fs.find? fun b=>!decide (Fam.mt a b))=none↔Fam.hitP fs a=true:=by
 rw [List.find?_eq_none,Fam.hitP_iff]
 simp
def qkX (K:W.Frag):Sp:=sp2 fun x y H Q=>∃(m:Nat) (p:Addr) (fs:List Nat),x = .int m∧m≤8∧y = .ref p∧H p=some (.lst (nV fs))∧∀H' p',H p'=none→qau H H'→H' p'=some (.lst (nV (Fam.hits m fs)))→Q (.ref p') H'
theorem qof {f:Addr} {fd:FuncData} (F:Fun K "hits" "hits" qgv f fd) (T:Txt mg) {f_61:Addr} {fd_61:FuncData} (C_61:Cal P w K mg base "says" 2 ["family", "one"] (qgg K) f_61 fd_61) {f_10:Addr} {fd_10:FuncData} (C_10:Cal P w K mg base "first_missed" 2 ["family", "one"] (qfk K) f_10 fd_10):qaZ P w K mg base CX0 3 f fd ["many", "family"] (qkX K):=by
 have sc:=qlm
 refine F.ok qlm (fun vs H Q E h=>by obtain ⟨_,_,rfl,_⟩:=h;rfl) (fun cdv A outer s H vs Q E hr h=>?_)
 obtain ⟨x0,x1,rfl,h⟩:=h
 refine ⟨_,(qab (qax (i:=2) sc.nd rfl (Or.inl rfl) (qa7 qac))
   (qab (qbo PassesOwn.never rfl (qaO (by rfl) T.n_range (qaa (qaq qbx qaf (pv 0)) qac)) (qas (i:=3) sc.nd rfl (Or.inl rfl)) (qae (qaA (PW.pt (qdz (qb4 (qbn (qap C_61 hr (by decide) (by rfl) (qaa (pv 2) (qaa (pv 3) qac))))) (qcO (qaj qgA (qap C_10 hr (by decide) (by rfl) (qaa (pv 1) (qaa (pv 3) qac))) qcG (qao _))))) (qae (qdb (qbp PySem.F.plainAttrs_list PySem.F.slot_list_append PySem.F.type_list_append qcj (pv 2) (qaa (pv 3) qac)))) qak)))
   (qae (qah (pv 2))))),?_⟩
 refine rdg (σ':=[some x0,some x1,none,none]) rfl ?_
 obtain ⟨m,p,fs,rfl,hm,rfl,f1,q⟩:=h
 walk_at "rd"
 rw [qa5]
 have pp:=Nat.two_pow_pos m
 have p8:2^m≤256:=Nat.pow_le_pow_right (n:=2) (by decide) hm
 refine ⟨qaC (by simp),fun p0 hp0=>⟨qaW (by omega) (by omega) (by decide) (by decide),by omega,by omega,?_⟩⟩
 rw [Int.toNat_natCast]
 generalize g0:upd H p0 _=G0
 have a0:=qaw g0
 have t0:=qar g0 hp0
 have n0:=qgr hp0 f1
 refine qgf (fun i σ H3=>∃v,σ=[some (.int m),some (.ref p),some (.ref p0),v]∧H3=upd G0 p0 (.lst (nV (Fam.pick (Fam.hitP fs) (List.range i))))) ⟨_,rfl,qgP a0⟩ ?_ ?_
 · rintro i σ H3 hi ⟨v,rfl,rfl⟩ N hN
   have hlen:(Fam.pick (Fam.hitP fs) (List.range i)).length≤1000:=Nat.le_trans (Fam.pick_len _ _) (by simp;omega)
   have fin:∀L,Fam.pick (Fam.hitP fs) (List.range (i+1))=L→N [some (.int m),some (.ref p),some (.ref p0),some (.int (i:Nat))] (upd G0 p0 (.lst (nV L))):=fun L e=>hN _ _ ⟨_,rfl,by rw [e]⟩
   rw [List.range_succ,Fam.pick_snoc] at fin
   generalize Fam.pick (Fam.hitP fs) (List.range i)=L at fin hlen ⊢
   have fp:upd G0 p0 (.lst (nV L)) p=some (.lst (nV fs)):=by rw [qaz n0];exact t0 _ _ f1
   (try walk_at "rd")
   refine ⟨_,_,rfl,p0,L,i,rfl,SqL.of qai,rfl,?_⟩
   (try walk_at "rd")
   cases hs:Fam.sayP L i with
   | true =>
     rw [if_neg (by decide)]
     exact fin L (by rw [if_neg];rw [show (L.any fun c=>decide (Fam.sub c i))=true from hs];simp)
   | false =>
     rw [if_pos rfl]
     refine ⟨_,_,rfl,p,fs,i,rfl,SqL.of fp,rfl,?_⟩
     have hs':(L.any fun c=>decide (Fam.sub c i))=false:=hs
     have hf:=qgK fs i
     cases ho:(fs.find? fun b=>!decide (Fam.mt i b)) with
     | none =>
       have hh:=hf.mp ho
       refine ⟨rfl,?_⟩
       rw [if_pos (show oV none=V.non from rfl)]
       refine ⟨qb5 qai,qjE.mpr ⟨qcL (by (try rw [qbz]);omega),?_⟩⟩
       rw [qiZ]
       exact fin (L++[i]) (by rw [if_pos];rw [hs',hh];rfl)
     | some b =>
       have hh:Fam.hitP fs i=false:=by
         cases hq:Fam.hitP fs i with
         | false=>rfl
         | true=>rw [hf.mpr hq] at ho;cases ho
       refine ⟨rfl,?_⟩
       rw [if_neg (by intro z;cases z)]
       exact fin L (by rw [if_neg];rw [hs',hh];decide)
 · rintro σ H3 ⟨v,rfl,rfl⟩
   (try walk_at "rd")
   exact q _ p0 hp0 (t0.upd hp0) qai
abbrev qbQ:Stmt:=top 61
theorem qie:qan ["family", "k"] ["family", "k"] (qad qbQ):=⟨rfl,rfl,rfl,by decide +kernel,rfl,by decide +kernel,by decide +kernel⟩
theorem qic {f:Addr} {fd:FuncData} (F:Fun K "always_in" "always_in" qbQ f fd) (T:Txt mg):qaZ P w K mg base CX0 1 f fd ["family", "k"] qfE:=F.ok qie (fun vs H Q E h=>absurd h id) (fun cdv A outer s H vs Q E hr h=>absurd h id)
abbrev qby:Stmt:=top 62
theorem qhe:qan ["family", "k"] ["family", "k"] (qad qby):=⟨rfl,rfl,rfl,by decide +kernel,rfl,by decide +kernel,by decide +kernel⟩
theorem qg3 {f:Addr} {fd:FuncData} (F:Fun K "always_out" "always_out" qby f fd) (T:Txt mg):qaZ P w K mg base CX0 1 f fd ["family", "k"] qfE:=F.ok qhe (fun vs H Q E h=>absurd h id) (fun cdv A outer s H vs Q E hr h=>absurd h id)
abbrev qdf:Stmt:=top 63
theorem qky:qan ["one", "other"] ["one", "other"] (qad qdf):=⟨rfl,rfl,rfl,by decide +kernel,rfl,by decide +kernel,by decide +kernel⟩
theorem qkt {f:Addr} {fd:FuncData} (F:Fun K "either" "either" qdf f fd) (T:Txt mg):qaZ P w K mg base CX0 1 f fd ["one", "other"] qfE:=F.ok qky (fun vs H Q E h=>absurd h id) (fun cdv A outer s H vs Q E hr h=>absurd h id)
abbrev qgC:Stmt:=top 64
theorem qn8:qan ["one", "other", "joined", "a"] ["one", "other"] (qad qgC):=⟨rfl,rfl,rfl,by decide +kernel,rfl,by decide +kernel,by decide +kernel⟩
theorem qn3 {f:Addr} {fd:FuncData} (F:Fun K "both" "both" qgC f fd) (T:Txt mg):qaZ P w K mg base CX0 1 f fd ["one", "other"] qfE:=F.ok qn8 (fun vs H Q E h=>absurd h id) (fun cdv A outer s H vs Q E hr h=>absurd h id)
abbrev qaH:Stmt:=top 45
theorem qbZ:qan ["family", "one", "k", "other"] ["family", "one", "k"] (qad qaH):=⟨rfl,rfl,rfl,by decide +kernel,rfl,by decide +kernel,by decide +kernel⟩
def qcw (fs:List Nat) (a k:Nat):Option Nat:=fs.find? fun b=>decide (a&&&b=2^k)
def qiy (K:W.Frag):Sp:=sp3 fun x y z H Q=>∃(p:Addr) (fs:List Nat) (a k:Nat),x = .ref p∧SqL K H p (nV fs)∧y = .int a∧z = .int k∧k≤100∧Q (oV (qcw fs a k)) H
theorem qda {f:Addr} {fd:FuncData} (F:Fun K "first_met_by_alone" "first_met_by_alone" qaH f fd) (T:Txt mg)  : qaZ P w K mg base CX0 1 f fd ["family", "one", "k"] (qiy K):=by
 have sc:=qbZ
 refine F.ok qbZ (fun vs H Q E h=>by obtain ⟨_,_,_,rfl,_⟩:=h;rfl) (fun cdv A outer s H vs Q E hr h=>?_)
 obtain ⟨x0,x1,x2,rfl,h⟩:=h
 refine ⟨_,(qab (qbo PassesOwn.never rfl (qaM (pv 0)) (qas (i:=3) sc.nd rfl (Or.inl rfl)) (qae (qaA (qaj (qay (K:=K) rfl hr.units0) (qaq qcz (pv 1) (pv 3)) (qaq qbx qaf (pv 2)) (qao _)) (qae (qah (pv 3))) qak)))
   (qae (qah qcG))),?_⟩
 refine rdg (σ':=[some x0,some x1,some x2,none]) rfl ?_
 obtain ⟨p,fs,a,k,rfl,hq,rfl,rfl,hk,q⟩:=h
 walk_at "rd"
 refine ⟨⟨_,hq⟩,qfQ (fun i σ H'=>∃v,σ=[some (.ref p),some (.int a),some (.int k),v]∧H'=H∧(fs.take i).find? (fun b=>decide (a&&&b=2^k))=none) ⟨none,rfl,rfl,rfl⟩ (fun i σ H' _ ⟨v,_,e,_⟩=>e▸hq) ?_ ?_⟩
 · rintro i b σ H' hb ⟨v,rfl,rfl,h0⟩ N hN
   (try walk_at "rd")
   rw [qa5,qb3]
   refine ⟨qaW (by omega) (by omega) (by decide) (by decide),qiW (b:=decide (a&&&b=2^k)) (by rw [decide_eq_true_eq];omega) (fun hc=>?_) fun hc=>hN _ _ ⟨_,rfl,rfl,qdS hb h0 hc⟩⟩
   rw [show qcw fs a k=some b from qdU hb h0 hc] at q
   exact q
 · rintro σ H' ⟨v,rfl,rfl,h0⟩
   rw [List.take_length] at h0
   rw [show qcw fs a k=none from h0] at q
   exact q
abbrev qdn:Stmt:=top 43
theorem qh0:qan ["family", "one", "missed", "own", "k", "other"] ["family", "one"] (qad qdn):=⟨rfl,rfl,rfl,by decide +kernel,rfl,by decide +kernel,by decide +kernel⟩
def qcD (fs:List Nat) (a:Nat):Option Nat:=fs.find? fun b=>!decide (Fam.mt a b)
def qhW (fs:List Nat) (a:Nat):Option Nat:=(Fam.nms 8 a).find? fun k=>(qcw fs a k).isNone
/-- the rows at ps are (k,other),k through L -/
def Rows (H:Hp) (fs:List Nat) (a:Nat) (L:List Nat) (ps:List Addr):Prop:=ps.length=L.length∧∀(j k:Nat) (r:Addr),L[j]?=some k→ps[j]?=some r→∃o,qcw fs a k=some o∧H r=some (.tup [.int (k:Nat),.int (o:Nat)])
theorem Rows.mono {H H':Hp} {fs:List Nat} {a:Nat} {L:List Nat} {ps:List Addr} (h:Rows H fs a L ps) (s:qau H H'):Rows H' fs a L ps:=⟨h.1,fun j k r h1 h2=>let ⟨o,e1,e2⟩:=h.2 j k r h1 h2;⟨o,e1,s _ _ e2⟩⟩
theorem Rows.snoc {H:Hp} {fs:List Nat} {a:Nat} {L:List Nat} {ps:List Addr} {k o:Nat} {r:Addr} (h:Rows H fs a L ps) (e:qcw fs a k=some o) (hr:H r=some (.tup [.int (k:Nat),.int (o:Nat)])):Rows H fs a (L++[k]) (ps++[r]):=by
 refine ⟨by simp [h.1],fun j c r' hj hr'=>?_⟩
 rcases Nat.lt_or_ge j L.length with z | z
 · rw [List.getElem?_append_left z] at hj
   rw [List.getElem?_append_left (by rw [h.1];exact z)] at hr'
   exact h.2 j c r' hj hr'
 · rw [List.getElem?_append_right z] at hj
   rw [List.getElem?_append_right (by rw [h.1];exact z),h.1] at hr'
   have hj0:j-L.length=0:=by
     rcases Nat.eq_zero_or_pos (j-L.length) with y | y
     · exact y
     · rw [List.getElem?_eq_none (by simp;omega)] at hj;cases hj
   rw [hj0] at hj hr'
   cases hj
   cases hr'
   exact ⟨o,e,hr⟩
def qgE (K:W.Frag):Sp:=sp2 fun x y H Q=>∃(p:Addr) (fs:List Nat) (a:Nat),x = .ref p∧H p=some (.lst (nV fs))∧y = .int a∧a<256 ∧
 (∀b,qcD fs a=some b→∀t H',H t=none→qau H H'→H' t=some (.tup [.str "misses",.int (b:Nat)])→Q (.ref t) H') ∧
 (qcD fs a=none→∀k,qhW fs a=some k→∀t H',H t=none→qau H H'→H' t=some (.tup [.str "spare",.int (k:Nat)])→Q (.ref t) H') ∧
 (qcD fs a=none→qhW fs a=none→∀(t p':Addr) (ps:List Addr) (H':Hp),H t=none→H p'=none→(∀r∈ps,H r=none)→qau H H'→H' t=some (.tup [.str "least",.ref p'])→H' p'=some (.lst (ps.map V.ref))→Rows H' fs a (Fam.nms 8 a) ps→Q (.ref t) H')
theorem qld {f:Addr} {fd:FuncData} (F:Fun K "looked" "looked" qdn f fd) (T:Txt mg) {f_10:Addr} {fd_10:FuncData} (C_10:Cal P w K mg base "first_missed" 2 ["family", "one"] (qfk K) f_10 fd_10) {f_38:Addr} {fd_38:FuncData} (C_38:Cal P w K mg base "names_in" 1 ["one"] qd9 f_38 fd_38) {f_00:Addr} {fd_00:FuncData} (C_00:Cal P w K mg base "first_met_by_alone" 1 ["family", "one", "k"] (qiy K) f_00 fd_00):qaZ P w K mg base CX0 3 f fd ["family", "one"] (qgE K):=by
 have sc:=qh0
 refine F.ok qh0 (fun vs H Q E h=>by obtain ⟨_,_,rfl,_⟩:=h;rfl) (fun cdv A outer s H vs Q E hr h=>?_)
 obtain ⟨x0,x1,rfl,h⟩:=h
 refine ⟨_,(qab (qax (i:=2) sc.nd rfl (Or.inl rfl) (qap C_10 hr (by decide) (by rfl) (qaa (pv 0) (qaa (pv 1) qac))))
   (qab (qaA (qaj qfo (pv 2) qcG (qao _)) (qae (qah (qct (qaa qag (qaa (pv 2) qac))))) qak)
   (qab (qax (i:=3) sc.nd rfl (Or.inl rfl) (qa7 qac))
   (qab (qbo PassesOwn.never rfl (qaM (qap C_38 hr (by decide) (by rfl) (qaa (pv 1) qac))) (qas (i:=4) sc.nd rfl (Or.inl rfl)) (qab (qax (i:=5) sc.nd rfl (Or.inl rfl) (qap C_00 hr (by decide) (by rfl) (qaa (pv 0) (qaa (pv 1) (qaa (pv 4) qac)))))
   (qab (qaA (qaj qgA (pv 5) qcG (qao _)) (qae (qah (qct (qaa qag (qaa (pv 4) qac))))) qak)
   (qae (qdb (qbp PySem.F.plainAttrs_list PySem.F.slot_list_append PySem.F.type_list_append qcj (pv 3) (qaa (qct (qaa (pv 4) (qaa (pv 5) qac))) qac)))))))
   (qae (qah (qct (qaa qag (qaa (pv 3) qac))))))))),?_⟩
 refine rdg (σ':=[some x0,some x1,none,none,none,none]) rfl ?_
 obtain ⟨p,fs,a,rfl,f1,rfl,ha,q1,q2,q3⟩:=h
 walk_at "rd"
 refine ⟨_,_,rfl,p,fs,a,rfl,SqL.of f1,rfl,?_⟩
 have em:(fs.find? fun b=>!decide (Fam.mt a b))=qcD fs a:=rfl
 rw [em]
 cases hm:qcD fs a with
 | some b =>
   refine ⟨rfl,true,by simp [oV],qeT ⟨qaC (by simp),fun t ht=>q1 b hm t _ ht (qau.new ht) qai⟩⟩
 | none =>
   refine ⟨rfl,false,by simp [oV],qcp ⟨qaC (by simp),fun p0 hp0=>?_⟩⟩
   generalize g0:upd H p0 _=G0
   have a0:=qaw g0
   have t0:=qar g0 hp0
   refine ⟨_,rfl,a,rfl,ha,fun G1 p1 t1 hp1=>⟨p1,rfl,⟨_,SqL.of qai⟩,?_⟩⟩
   have a0:=t1 _ _ a0
   have n01:=qgr hp1 a0
   generalize g1:upd G1 p1 _=G2
   have a1:=qaw g1
   have t2:=(t0.trans t1).trans (qar g1 hp1)
   have a0:=qar g1 hp1 _ _ a0
   have l8:(Fam.nms 8 a).length≤8:=Nat.le_trans (List.length_filter_le _ _) (by simp)
   refine qfQ (fs:=Fam.nms 8 a) (fun i σ H3=>∃v1 v2 ps,σ=[some (.ref p),some (.int a),some .non,some (.ref p0),v1,v2]∧qau H H3∧H3 p1=some (.lst (nV (Fam.nms 8 a)))∧H3 p0=some (.lst (ps.map V.ref))∧(∀r∈ps,H r=none)∧Rows H3 fs a ((Fam.nms 8 a).take i) ps∧((Fam.nms 8 a).take i).find? (fun k=>(qcw fs a k).isNone)=none) ⟨none,none,[],rfl,t2,a1,a0,fun r hr=>(by cases hr),⟨rfl,fun j k r h=>(by simp at h)⟩,rfl⟩ (fun i σ H3 _ ⟨_,_,_,_,_,e,_⟩=>SqL.of e) ?_ ?_
   · rintro i k σ H3 hk ⟨v1,v2,ps,rfl,s3,b1,b0,fr,rw1,fd⟩ N hN
     have k8:=(Fam.mem_nms.mp (List.mem_of_getElem? hk)).1
     (try walk_at "rd")
     refine ⟨_,_,_,rfl,p,fs,a,k,rfl,SqL.of (s3 _ _ f1),rfl,rfl,by omega,?_⟩
     cases ho:qcw fs a k with
     | none =>
       refine ⟨rfl,?_⟩
       rw [if_pos (show oV none=V.non from rfl)]
       refine ⟨qaC (by simp),fun t ht=>q2 hm k (qdU hk fd (by rw [ho];rfl)) t _ (qaD s3 ht) (s3.trans (qau.new ht)) qai⟩
     | some o =>
       refine ⟨rfl,?_⟩
       rw [if_neg (fun z=>by cases z)]
       refine ⟨qb5 b0,qaC (by simp),fun r hr=>?_⟩
       generalize g5:upd H3 r _=G5
       have a5:=qaw g5
       have t5:=qar g5 hr
       have n0r:=qgr hr b0
       have n1r:=qgr hr b1
       refine ⟨p0,_,_,rfl,rfl,t5 _ _ b0,qcL (by rw [List.length_map,rw1.1,List.length_take];omega),hN _ _ ⟨_,_,ps++[r],rfl,(s3.trans t5).upd hp0,?_,by rw [qai];simp,fun r' hr'=>?_,?_,qdS hk fd (by rw [ho];rfl)⟩⟩
       · rw [qaz (Ne.symm n01)]
         exact t5 _ _ b1
       · rcases List.mem_append.mp hr' with z | z
         · exact fr r' z
         · rw [show r'=r by simpa using z]
           exact qaD s3 hr
       · rw [List.take_add_one,hk]
         have rw2:Rows (upd G5 p0 (.lst (ps.map V.ref++[V.ref r]))) fs a ((Fam.nms 8 a).take i) ps:=⟨rw1.1,fun j c r' h1 h2=>by
           obtain ⟨o',e1,e2⟩:=rw1.2 j c r' h1 h2
           refine ⟨o',e1,?_⟩
           rw [qaz (fun z=>by rw [z,b0] at e2;cases e2)]
           exact t5 _ _ e2⟩
         exact rw2.snoc ho (by rw [qaz (Ne.symm n0r)];exact a5)
   · rintro σ H3 ⟨v1,v2,ps,rfl,s3,b1,b0,fr,rw1,fd⟩
     rw [List.take_length] at rw1 fd
     (try walk_at "rd")
     exact ⟨qaC (by simp),fun t ht=>q3 hm fd t p0 ps _ (qaD s3 ht) hp0 fr (s3.trans (qau.new ht)) qai (qau.new ht _ _ b0) (rw1.mono (qau.new ht))⟩
abbrev qaV:Stmt:=top 48
theorem qcA:qan ["many", "one", "other", "s"] ["many", "one", "other"] (qad qaV):=⟨rfl,rfl,rfl,by decide +kernel,rfl,by decide +kernel,by decide +kernel⟩
def qew (m:Nat) (fs gs:List Nat):Option Nat:=(List.range (2^m)).find? fun s=>!Fam.sayP fs s&&!Fam.sayP gs (Fam.rst m s)
def qku (K:W.Frag):Sp:=sp3 fun x y z H Q=>∃(m:Nat) (p1 p2:Addr) (fs gs:List Nat),x = .int m∧m≤8∧y = .ref p1∧SqL K H p1 (nV fs)∧z = .ref p2∧SqL K H p2 (nV gs)∧Q (oV (qew m fs gs)) H
theorem qfU {f:Nat→Bool} {i:Nat} (h0:(List.range i).find? f=none) (hb:f i=false):(List.range (i+1)).find? f=none:=by
 rw [List.range_succ,List.find?_append,h0]
 simp [hb]
theorem qjs {f:Nat→Bool} {n i:Nat} (hi:i<n) (h0:(List.range i).find? f=none) (hb:f i=true):(List.range n).find? f=some i:=by
 obtain ⟨d,rfl⟩:∃d,n=i+(1+d):=⟨n-i-1,by omega⟩
 rw [List.range_add,List.find?_append,h0,Nat.add_comm 1 d,List.range_succ_eq_map]
 simp [hb]
theorem qep {f:Addr} {fd:FuncData} (F:Fun K "first_left_out" "first_left_out" qaV f fd) (T:Txt mg) {f_61:Addr} {fd_61:FuncData} (C_61:Cal P w K mg base "says" 2 ["family", "one"] (qgg K) f_61 fd_61) {f_60:Addr} {fd_60:FuncData} (C_60:Cal P w K mg base "rest" 1 ["many", "one"] qlC f_60 fd_60):qaZ P w K mg base CX0 3 f fd ["many", "one", "other"] (qku K):=by
 have sc:=qcA
 refine F.ok qcA (fun vs H Q E h=>by obtain ⟨_,_,_,rfl,_⟩:=h;rfl) (fun cdv A outer s H vs Q E hr h=>?_)
 obtain ⟨x0,x1,x2,rfl,h⟩:=h
 refine ⟨_,(qab (qbo PassesOwn.never rfl (qaO (by rfl) T.n_range (qaa (qaq qbx qaf (pv 0)) qac)) (qas (i:=3) sc.nd rfl (Or.inl rfl)) (qae (qaA (PW.pt (qdz (qb4 (qbn (qap C_61 hr (by decide) (by rfl) (qaa (pv 1) (qaa (pv 3) qac))))) (qcO (qb4 (qbn (qap C_61 hr (by decide) (by rfl) (qaa (pv 2) (qaa (qap C_60 hr (by decide) (by rfl) (qaa (pv 0) (qaa (pv 3) qac))) qac)))))))) (qae (qah (pv 3))) qak)))
   (qae (qah qcG))),?_⟩
 refine rdg (σ':=[some x0,some x1,some x2,none]) rfl ?_
 obtain ⟨m,p1,p2,fs,gs,rfl,hm,rfl,h1,rfl,h2,q⟩:=h
 walk_at "rd"
 have pp:=Nat.two_pow_pos m
 have p8:2^m≤256:=Nat.pow_le_pow_right (n:=2) (by decide) hm
 rw [qa5]
 refine ⟨qaW (by omega) (by omega) (by decide) (by decide),by omega,by omega,?_⟩
 rw [Int.toNat_natCast]
 refine qgf (fun i σ H3=>∃v,σ=[some (.int m),some (.ref p1),some (.ref p2),v]∧H3=H∧(List.range i).find? (fun s=>!Fam.sayP fs s&&!Fam.sayP gs (Fam.rst m s))=none) ⟨none,rfl,rfl,rfl⟩ ?_ ?_
 · rintro i σ H3 hi ⟨v,rfl,rfl,h0⟩ N hN
   (try walk_at "rd")
   refine ⟨_,_,rfl,p1,fs,i,rfl,h1,rfl,?_⟩
   (try walk_at "rd")
   cases hs:Fam.sayP fs i with
   | true =>
     rw [if_neg (by decide)]
     exact hN _ _ ⟨_,rfl,rfl,qfU h0 (by rw [hs];rfl)⟩
   | false =>
     rw [if_pos rfl]
     refine ⟨_,_,rfl,m,i,rfl,rfl,hm,hi,?_⟩
     refine ⟨_,_,rfl,p2,gs,_,rfl,h2,rfl,?_⟩
     (try walk_at "rd")
     cases hg:Fam.sayP gs (Fam.rst m i) with
     | true=>exact hN _ _ ⟨_,rfl,rfl,qfU h0 (by rw [hs,hg];rfl)⟩
     | false =>
       rw [show qew m fs gs=some i from qjs hi h0 (by rw [hs,hg];rfl)] at q
       exact q
 · rintro σ H3 ⟨v,rfl,rfl,h0⟩
   rw [show qew m fs gs=none from h0] at q
   exact q
abbrev qgo:Stmt:=top 47
theorem qlP:qan ["many", "one", "other", "a", "b", "s"] ["many", "one", "other"] (qad qgo):=⟨rfl,rfl,rfl,by decide +kernel,rfl,by decide +kernel,by decide +kernel⟩
def qjZ (gs:List Nat) (a:Nat):Option Nat:=gs.find? fun b=>!decide (Fam.mt a b)
def qhw (fs gs:List Nat):Option Nat:=fs.find? fun a=>(qjZ gs a).isSome
def qoF (m:Nat) (fs gs:List Nat):List V:=match qhw fs gs with
 | some a=>[.str "apart",.int (a:Nat),oV (qjZ gs a)]
 | none=>match qew m fs gs with
   | some s=>[.str "neither",.int (s:Nat)]
   | none=>[.str "each"]
def qkI (K:W.Frag):Sp:=sp3 fun x y z H Q=>∃(m:Nat) (p1 p2:Addr) (fs gs:List Nat),x = .int m∧m≤8∧y = .ref p1∧SqL K H p1 (nV fs)∧z = .ref p2∧SqL K H p2 (nV gs)∧∀t H',H t=none→qau H H'→H' t=some (.tup (qoF m fs gs))→Q (.ref t) H'
theorem qoj {f:Addr} {fd:FuncData} (F:Fun K "held" "held" qgo f fd) (T:Txt mg) {f_04:Addr} {fd_04:FuncData} (C_04:Cal P w K mg base "first_left_out" 3 ["many", "one", "other"] (qku K) f_04 fd_04) {f_10:Addr} {fd_10:FuncData} (C_10:Cal P w K mg base "first_missed" 2 ["family", "one"] (qfk K) f_10 fd_10):qaZ P w K mg base CX0 4 f fd ["many", "one", "other"] (qkI K):=by
 have sc:=qlP
 refine F.ok qlP (fun vs H Q E h=>by obtain ⟨_,_,_,rfl,_⟩:=h;rfl) (fun cdv A outer s H vs Q E hr h=>?_)
 obtain ⟨x0,x1,x2,rfl,h⟩:=h
 refine ⟨_,(qab (qbo PassesOwn.never rfl (qaM (pv 1)) (qas (i:=3) sc.nd rfl (Or.inl rfl)) (qab (qax (i:=4) sc.nd rfl (Or.inl rfl) (qap C_10 hr (by decide) (by rfl) (qaa (pv 2) (qaa (pv 3) qac))))
   (qae (qaA (qaj qfo (pv 4) qcG (qao _)) (qae (qah (qct (qaa qag (qaa (pv 3) (qaa (pv 4) qac)))))) qak))))
   (qab (qax (i:=5) sc.nd rfl (Or.inl rfl) (qap C_04 hr (by decide) (by rfl) (qaa (pv 0) (qaa (pv 1) (qaa (pv 2) qac)))))
   (qab (qaA (qaj qfo (pv 5) qcG (qao _)) (qae (qah (qct (qaa qag (qaa (pv 5) qac))))) qak)
   (qae (qah (qct (qaa qag qac))))))),?_⟩
 refine rdg (σ':=[some x0,some x1,some x2,none,none,none]) rfl ?_
 obtain ⟨m,p1,p2,fs,gs,rfl,hm,rfl,h1,rfl,h2,q⟩:=h
 walk_at "rd"
 refine ⟨⟨_,h1⟩,qfQ (fs:=fs) (fun i σ H'=>∃v1 v2,σ=[some (.int m),some (.ref p1),some (.ref p2),v1,v2,none]∧H'=H∧(fs.take i).find? (fun a=>(qjZ gs a).isSome)=none) ⟨none,none,rfl,rfl,rfl⟩ (fun i σ H' _ ⟨_,_,_,e,_⟩=>e▸h1) ?_ ?_⟩
 · rintro i x σ H' hx ⟨v1,v2,rfl,rfl,h0⟩ N hN
   (try walk_at "rd")
   refine ⟨_,_,rfl,p2,gs,x,rfl,h2,rfl,?_⟩
   rw [show (gs.find? fun b=>!decide (Fam.mt x b))=qjZ gs x from rfl]
   cases hb:qjZ gs x with
   | none=>exact ⟨rfl,false,by simp [oV],qcp (hN _ _ ⟨_,_,rfl,rfl,qdS hx h0 (by rw [hb];rfl)⟩)⟩
   | some b =>
     refine ⟨rfl,true,by simp [oV],qeT ⟨qaC (by simp),fun t ht=>q t _ ht (qau.new ht) ?_⟩⟩
     rw [qai]
     unfold qoF
     rw [show qhw fs gs=some x from qdU hx h0 (by rw [hb];rfl)]
     dsimp only
     rw [hb]
 · rintro σ H' ⟨v1,v2,rfl,rfl,h0⟩
   rw [List.take_length] at h0
   (try walk_at "rd")
   refine ⟨_,_,_,rfl,m,p1,p2,fs,gs,rfl,hm,rfl,h1,rfl,h2,?_⟩
   (try walk_at "rd")
   cases hs:qew m fs gs with
   | none =>
     refine ⟨rfl,false,by simp [oV],qcp ⟨qaC (by simp),fun t ht=>q t _ ht (qau.new ht) ?_⟩⟩
     rw [qai]
     unfold qoF
     rw [show qhw fs gs=none from h0,hs]
   | some s =>
     refine ⟨rfl,true,by simp [oV],qeT ⟨qaC (by simp),fun t ht=>q t _ ht (qau.new ht) ?_⟩⟩
     rw [qai]
     unfold qoF
     rw [show qhw fs gs=none from h0,hs]
     rfl
abbrev qce:Stmt:=top 50
theorem qfB:qan ["many", "family"] ["many", "family"] (qad qce):=⟨rfl,rfl,rfl,by decide +kernel,rfl,by decide +kernel,by decide +kernel⟩
def qc0 (K:W.Frag):Sp:=sp2 fun x y H Q=>∃(m:Nat) (p:Addr) (fs:List Nat),x = .int m∧m≤8∧y = .ref p∧H p=some (.lst (nV fs))∧∀H' p',H p'=none→qau H H'→H' p'=some (.lst (bV (tab (2^m) (Fam.sayP fs))))→Q (.ref p') H'
theorem qio {f:Addr} {fd:FuncData} (F:Fun K "table_of" "table_of" qce f fd) (T:Txt mg) {f_61:Addr} {fd_61:FuncData} (C_61:Cal P w K mg base "says" 2 ["family", "one"] (qgg K) f_61 fd_61):qaZ P w K mg base CX0 3 f fd ["many", "family"] (qc0 K):=by
 have sc:=qfB
 refine F.ok qfB (fun vs H Q E h=>by obtain ⟨_,_,rfl,_⟩:=h;rfl) (fun cdv A outer s H vs Q E hr h=>?_)
 obtain ⟨x0,x1,rfl,h⟩:=h
 refine ⟨_,(qae (qah (qaQ (N:=["s", "family"]) (nt:=1) (caps:=[1]) qaF rfl (qaO (by rfl) T.n_range (qaa (qaq qbx qaf (pv 0)) qac)) (fun _ _ _ _ _=>(qas (i:=0) (show List.Nodup (α:=Str) ["s", "family"] from by decide +kernel) rfl (Or.inl rfl))) qaJ (fun _ _ _ _ _=>qaY) (fun _ _ _ _ _=>(qap C_61 hr (by decide) (by rfl) (qaa (pv 1) (qaa (pv 0) qac))))))),?_⟩
 refine rdg (σ':=[some x0,some x1]) rfl ?_
 obtain ⟨m,p,fs,rfl,hm,rfl,f1,q⟩:=h
 walk_at "rd"
 have p8:=Nat.pow_le_pow_right (n:=2) (by decide) hm;rw [show 2^8=256 from rfl] at p8
 have pp:=Nat.two_pow_pos m
 rw [qa5]
 refine ⟨qaW (by omega) (by omega) (by decide) (by decide),by omega,by omega,?_⟩
 rw [Int.toNat_natCast]
 refine qdy (fun _=>true) (fun k => .bl (Fam.sayP fs k)) (by omega) (fun k hk H1 sm R R' r1 r2=>?_) fun H1 p1 sm hp=>?_
 · (try walk_at "rd")
   exact ⟨_,_,rfl,p,fs,k,rfl,SqL.of (sm _ _ f1),rfl,r1 rfl _ (qau.refl _)⟩
 · rw [qoZ]
   exact q _ p1 (qaD sm hp) (sm.trans (qau.new hp)) qai
abbrev qa4:Stmt:=top 55
theorem qcS:qan ["many", "table", "x", "y", "x_alone", "y_alone", "s"] ["many", "table", "x", "y"] (qad qa4):=⟨rfl,rfl,rfl,by decide +kernel,rfl,by decide +kernel,by decide +kernel⟩
theorem qpM {A B:Prop} [Decidable (oV none=V.non)] (h:A):if oV none=V.non then A else B:=by
 rw [if_pos (show oV none=V.non from rfl)]
 exact h
theorem qpw {b:Nat} {A B:Prop} [Decidable (oV (some b)=V.non)] (h:B):if oV (some b)=V.non then A else B:=by
 rw [if_neg (fun z=>by cases z)]
 exact h
def qfJ (K:W.Frag):Sp:=sp4 fun u v x y H Q=>∃(m:Nat) (p:Addr) (f:Nat→Bool) (i j:Nat),u = .int m∧m≤8∧v = .ref p∧SqL K H p (bV (tab (2^m) f))∧x = .int i∧i<m∧y = .int j∧j<m∧Q (oV (Fam.part m f i j)) H
theorem qqP {s x y:Nat}:decide (Fam.mt s (2^x|||2^y))=(s.testBit x||s.testBit y):=by
 rw [Bool.eq_iff_iff,decide_eq_true_eq,Fam.mt_iff,Bool.or_eq_true]
 constructor
 · rintro ⟨k,h1,h2⟩
   rw [Nat.testBit_or,Nat.testBit_two_pow,Nat.testBit_two_pow,Bool.or_eq_true,decide_eq_true_eq,decide_eq_true_eq] at h2
   rcases h2 with rfl | rfl
   · exact .inl h1
   · exact .inr h1
 · rintro (h | h)
   · exact ⟨x,h,by simp [Nat.testBit_or,Nat.testBit_two_pow]⟩
   · exact ⟨y,h,by simp [Nat.testBit_or,Nat.testBit_two_pow]⟩
theorem qeQ {f:Addr} {fd:FuncData} (F:Fun K "first_parting" "first_parting" qa4 f fd) (T:Txt mg) {f_55:Addr} {fd_55:FuncData} (C_55:Cal P w K mg base "meets" 1 ["one", "other"] qgG f_55 fd_55):qaZ P w K mg base CX0 2 f fd ["many", "table", "x", "y"] (qfJ K):=by
 have sc:=qcS
 refine F.ok qcS (fun vs H Q E h=>by obtain ⟨_,_,_,_,rfl,_⟩:=h;rfl) (fun cdv A outer s H vs Q E hr h=>?_)
 obtain ⟨x0,x1,x2,x3,rfl,h⟩:=h
 refine ⟨_,(qab (qax (i:=4) sc.nd rfl (Or.inl rfl) (qaq qbx qaf (pv 2)))
   (qab (qax (i:=5) sc.nd rfl (Or.inl rfl) (qaq qbx qaf (pv 3)))
   (qab (qbo PassesOwn.never rfl (qaO (by rfl) T.n_range (qaa (qaq qbx qaf (pv 0)) qac)) (qas (i:=6) sc.nd rfl (Or.inl rfl)) (qae (qaA (PW.pt (qdz (qb4 (qbn (qap C_55 hr (by decide) (by rfl) (qaa (pv 6) (qaa (qaq qi0 (pv 4) (pv 5)) qac))))) (qdz (qbn (qaE (qbF (K:=K) rfl) (pv 1) (qaq qi0 (pv 6) (pv 4)) (fun _ _=>rfl))) (qcO (qb4 (qbn (qaE (qbF (K:=K) rfl) (pv 1) (qaq qi0 (pv 6) (pv 5)) (fun _ _=>rfl)))))))) (qae (qah (pv 6))) qak)))
   (qae (qah qcG))))),?_⟩
 refine rdg (σ':=[some x0,some x1,some x2,some x3,none,none,none]) rfl ?_
 obtain ⟨m,p,f,x,y,rfl,hm,rfl,hq,rfl,hx,rfl,hy,q⟩:=h
 walk_at "rd"
 have pp:=Nat.two_pow_pos m
 have p8:2^m≤256:=Nat.pow_le_pow_right (n:=2) (by decide) hm
 have px:2^x<2^m:=Nat.pow_lt_pow_right (by decide) hx
 have py:2^y<2^m:=Nat.pow_lt_pow_right (by decide) hy
 rw [qa5,qa5,qa5]
 refine ⟨qaW (by omega) (by omega) (by decide) (by decide),qaW (by omega) (by omega) (by decide) (by decide),qaW (by omega) (by omega) (by decide) (by decide),by omega,by omega,?_⟩
 rw [Int.toNat_natCast]
 refine qgf (fun i σ H3=>∃v,σ=[some (.int m),some (.ref p),some (.int x),some (.int y),some (.int ((2^x:Nat))),some (.int ((2^y:Nat))),v]∧H3=H∧(List.range i).find? (Fam.partP f x y)=none) ⟨none,rfl,rfl,rfl⟩ ?_ ?_
 · rintro i σ H3 hi ⟨v,rfl,rfl,h0⟩ N hN
   (try walk_at "rd")
   rw [qfg,qfg,qfg]
   refine ⟨_,_,rfl,i,_,rfl,rfl,?_⟩
   rw [qqP]
   (try walk_at "rd")
   cases hs:(i.testBit x||i.testBit y) with
   | true =>
     rw [if_neg (by decide)]
     refine hN _ _ ⟨_,rfl,rfl,qfU h0 ?_⟩
     unfold Fam.partP
     cases e1:i.testBit x<;>cases e2:i.testBit y<;>simp_all
   | false =>
     rw [if_pos rfl]
     rw [Bool.or_eq_false_iff] at hs
     refine qaT hq (qgW (Nat.or_lt_two_pow hi px)) ⟨_,rfl,qkQ (fun h1=>?_) fun h1=>hN _ _ ⟨_,rfl,rfl,qfU h0 (by unfold Fam.partP;simp [h1])⟩⟩
     refine qaT hq (qgW (Nat.or_lt_two_pow hi py)) ⟨_,rfl,?_⟩
     cases h2:f (i|||2^y) with
     | true =>
       rw [if_neg (by decide)]
       refine hN _ _ ⟨_,rfl,rfl,qfU h0 ?_⟩
       unfold Fam.partP
       simp [h2]
     | false =>
       rw [if_pos rfl]
       rw [show Fam.part m f x y=some i from qjs hi h0 (by unfold Fam.partP;rw [hs.1,hs.2,h1,h2];rfl)] at q
       exact q
 · rintro σ H3 ⟨v,rfl,rfl,h0⟩
   rw [show Fam.part m f x y=none from h0] at q
   exact q
abbrev qbh:Stmt:=top 54
theorem qdw:qan ["many", "table", "x", "y", "s", "t"] ["many", "table", "x", "y"] (qad qbh):=⟨rfl,rfl,rfl,by decide +kernel,rfl,by decide +kernel,by decide +kernel⟩
def qmR (m:Nat) (f:Nat→Bool) (x y:Nat):List V:=match Fam.part m f x y,Fam.part m f y x with
 | none,none=>[.str "alike"]
 | some s,none=>[.str "heavier",.int (s:Nat)]
 | none,some t=>[.str "lighter",.int (t:Nat)]
 | some s,some t=>[.str "apart",.int (s:Nat),.int (t:Nat)]
theorem eqS {K:W.Frag} {z z':Str} {H:Hp} {Q:VK} (c:Bool) (h:decide (z=z')=c) (q:Q (.bl c) H):qmM K (.str z) (.str z') H Q:=qnz.mpr (h▸q)
theorem neS {K:W.Frag} {z z':Str} {H:Hp} {Q:VK} (c:Bool) (h:(!decide (z=z'))=c) (q:Q (.bl c) H):qmi K (.str z) (.str z') H Q:=qno.mpr (h▸q)
def qcr (K:W.Frag):Sp:=sp4 fun u v x y H Q=>∃(m:Nat) (p:Addr) (f:Nat→Bool) (i j:Nat),u = .int m∧m≤8∧v = .ref p∧SqL K H p (bV (tab (2^m) f))∧x = .int i∧i<m∧y = .int j∧j<m∧∀t H',H t=none→qau H H'→H' t=some (.tup (qmR m f i j))→Q (.ref t) H'
theorem qf9 {f:Addr} {fd:FuncData} (F:Fun K "compared_in" "compared_in" qbh f fd) (T:Txt mg) {f_07:Addr} {fd_07:FuncData} (C_07:Cal P w K mg base "first_parting" 2 ["many", "table", "x", "y"] (qfJ K) f_07 fd_07):qaZ P w K mg base CX0 3 f fd ["many", "table", "x", "y"] (qcr K):=by
 have sc:=qdw
 refine F.ok qdw (fun vs H Q E h=>by obtain ⟨_,_,_,_,rfl,_⟩:=h;rfl) (fun cdv A outer s H vs Q E hr h=>?_)
 obtain ⟨x0,x1,x2,x3,rfl,h⟩:=h
 refine ⟨_,(qab (qax (i:=4) sc.nd rfl (Or.inl rfl) (qap C_07 hr (by decide) (by rfl) (qaa (pv 0) (qaa (pv 1) (qaa (pv 2) (qaa (pv 3) qac))))))
   (qab (qax (i:=5) sc.nd rfl (Or.inl rfl) (qap C_07 hr (by decide) (by rfl) (qaa (pv 0) (qaa (pv 1) (qaa (pv 3) (qaa (pv 2) qac))))))
   (qab (qaA (PW.pt (qdz (qaj qgA (pv 4) qcG (qao _)) (qcO (qaj qgA (pv 5) qcG (qao _))))) (qae (qah (qct (qaa qag qac)))) qak)
   (qab (qaA (qaj qgA (pv 5) qcG (qao _)) (qae (qah (qct (qaa qag (qaa (pv 4) qac))))) qak)
   (qab (qaA (qaj qgA (pv 4) qcG (qao _)) (qae (qah (qct (qaa qag (qaa (pv 5) qac))))) qak)
   (qae (qah (qct (qaa qag (qaa (pv 4) (qaa (pv 5) qac))))))))))),?_⟩
 refine rdg (σ':=[some x0,some x1,some x2,some x3,none,none]) rfl ?_
 obtain ⟨m,p,f,x,y,rfl,hm,rfl,hq,rfl,hx,rfl,hy,q⟩:=h
 walk_at "rd"
 refine ⟨_,_,_,_,rfl,m,p,f,x,y,rfl,hm,rfl,hq,rfl,hx,rfl,hy,?_⟩
 (try walk_at "rd")
 refine ⟨_,_,_,_,rfl,m,p,f,y,x,rfl,hm,rfl,hq,rfl,hy,rfl,hx,?_⟩
 (try walk_at "rd")
 have fin:∀t (L:List V),H t=none→L=qmR m f x y→Q (.ref t) (upd H t (.tup L)):=fun t L ht e=>q t _ ht (qau.new ht) (by rw [qai,e])
 unfold qmR at fin
 cases h1:Fam.part m f x y with
 | none =>
   cases h2:Fam.part m f y x with
   | none =>
     rw [h1,h2] at fin
     exact ⟨rfl,qpM ⟨rfl,qpM ⟨qaC (by simp),fun t ht=>fin t _ ht rfl⟩⟩⟩
   | some t2 =>
     rw [h1,h2] at fin
     exact ⟨rfl,qpM ⟨rfl,qpw ⟨rfl,qpw ⟨rfl,qpM ⟨qaC (by simp),fun t ht=>fin t _ ht rfl⟩⟩⟩⟩⟩
 | some s1 =>
   cases h2:Fam.part m f y x with
   | none =>
     rw [h1,h2] at fin
     exact ⟨rfl,qpw ⟨rfl,qpM ⟨qaC (by simp),fun t ht=>fin t _ ht rfl⟩⟩⟩
   | some t2 =>
     rw [h1,h2] at fin
     exact ⟨rfl,qpw ⟨rfl,qpw ⟨rfl,qpw ⟨qaC (by simp),fun t ht=>fin t _ ht rfl⟩⟩⟩⟩
abbrev qb8:Stmt:=top 53
theorem qfw:qan ["many", "family", "x", "y"] ["many", "family", "x", "y"] (qad qb8):=⟨rfl,rfl,rfl,by decide +kernel,rfl,by decide +kernel,by decide +kernel⟩
def qev (K:W.Frag):Sp:=sp4 fun u v x y H Q=>∃(m:Nat) (p:Addr) (fs:List Nat) (i j:Nat),u = .int m∧m≤8∧v = .ref p∧H p=some (.lst (nV fs))∧x = .int i∧i<m∧y = .int j∧j<m∧∀t H',H t=none→qau H H'→H' t=some (.tup (qmR m (Fam.sayP fs) i j))→Q (.ref t) H'
theorem qiT {f:Addr} {fd:FuncData} (F:Fun K "compared" "compared" qb8 f fd) (T:Txt mg) {f_16:Addr} {fd_16:FuncData} (C_16:Cal P w K mg base "compared_in" 3 ["many", "table", "x", "y"] (qcr K) f_16 fd_16) {f_41:Addr} {fd_41:FuncData} (C_41:Cal P w K mg base "table_of" 3 ["many", "family"] (qc0 K) f_41 fd_41):qaZ P w K mg base CX0 4 f fd ["many", "family", "x", "y"] (qev K):=by
 have sc:=qfw
 refine F.ok qfw (fun vs H Q E h=>by obtain ⟨_,_,_,_,rfl,_⟩:=h;rfl) (fun cdv A outer s H vs Q E hr h=>?_)
 obtain ⟨x0,x1,x2,x3,rfl,h⟩:=h
 refine ⟨_,(qae (qah (qap C_16 hr (by decide) (by rfl) (qaa (pv 0) (qaa (qap C_41 hr (by decide) (by rfl) (qaa (pv 0) (qaa (pv 1) qac))) (qaa (pv 2) (qaa (pv 3) qac))))))),?_⟩
 refine rdg (σ':=[some x0,some x1,some x2,some x3]) rfl ?_
 obtain ⟨m,p,fs,x,y,rfl,hm,rfl,f1,rfl,hx,rfl,hy,q⟩:=h
 walk_at "rd"
 refine ⟨_,_,rfl,m,p,fs,rfl,hm,rfl,f1,fun G1 p1 hp1 t1 a1=>?_⟩
 (try walk_at "rd")
 refine ⟨_,_,_,_,rfl,m,p1,Fam.sayP fs,x,y,rfl,hm,rfl,SqL.of a1,rfl,hx,rfl,hy,fun t H' ht s at1=>?_⟩
 exact q t _ (qaD t1 ht) (t1.trans s) at1
abbrev qbO:Stmt:=top 57
theorem qeB:qan ["many", "table", "k"] ["many", "table", "k"] (qad qbO):=⟨rfl,rfl,rfl,by decide +kernel,rfl,by decide +kernel,by decide +kernel⟩
def qgX (K:W.Frag):Sp:=sp3 fun x y z H Q=>∃(m:Nat) (p:Addr) (f:Nat→Bool) (k:Nat),x = .int m∧m≤8∧y = .ref p∧H p=some (.lst (bV (tab (2^m) f)))∧z = .int k∧k<m∧∀H',qau H H'→Q (.int (Fam.trn m f k:Nat)) H'
theorem qhE {f:Addr} {fd:FuncData} (F:Fun K "turned_by" "turned_by" qbO f fd) (T:Txt mg)  : qaZ P w K mg base CX0 1 f fd ["many", "table", "k"] (qgX K):=by
 have sc:=qeB
 refine F.ok qeB (fun vs H Q E h=>by obtain ⟨_,_,_,rfl,_⟩:=h;rfl) (fun cdv A outer s H vs Q E hr h=>?_)
 obtain ⟨x0,x1,x2,rfl,h⟩:=h
 refine ⟨_,(qae (qah (qaB (qaN (K:=K) rfl) (by rfl) T.n_len PySem.boot_len (qaa (qaQ (N:=["s", "table", "k"]) (nt:=1) (caps:=[1,2]) qaF rfl (qaO (by rfl) T.n_range (qaa (qaq qbx qaf (pv 0)) qac)) (fun _ _ _ _ _=>(qas (i:=0) (show List.Nodup (α:=Str) ["s", "table", "k"] from by decide +kernel) rfl (Or.inl rfl))) qaJ (fun _ _ _ _ _=>(qcv (PW.pt (qdz (qb4 (qbn (qaE (qbF (K:=K) rfl) (pv 1) (pv 0) (fun _ _=>rfl)))) (qcO (qbn (qaE (qbF (K:=K) rfl) (pv 1) (qaq qi0 (pv 0) (qaq qbx qaf (pv 2))) (fun _ _=>rfl)))))))) (fun _ _ _ _ _=>(pv 0))) qac)))),?_⟩
 refine rdg (σ':=[some x0,some x1,some x2]) rfl ?_
 obtain ⟨m,p,f,k,rfl,hm,rfl,f1,rfl,hk,q⟩:=h
 walk_at "rd"
 have pp:=Nat.two_pow_pos m
 have p8:2^m≤256:=Nat.pow_le_pow_right (n:=2) (by decide) hm
 have pk:2^k<2^m:=Nat.pow_lt_pow_right (by decide) hk
 rw [qa5]
 refine ⟨qaW (by omega) (by omega) (by decide) (by decide),by omega,by omega,?_⟩
 rw [Int.toNat_natCast]
 refine qdy (fun s=>!f s&&f (s|||2^k)) (fun s => .int (s:Nat)) (by omega) (fun s hs H1 sm R R' r1 r2=>?_) fun H1 p1 sm hp=>?_
 · (try walk_at "rd")
   refine qaT (SqL.of (sm _ _ f1)) (qgW hs) ⟨_,rfl,?_⟩
   (try walk_at "rd")
   cases h1:f s with
   | true =>
     rw [if_neg (by decide)]
     exact r2 (by rw [h1];rfl) _ (qau.refl _)
   | false =>
     rw [if_pos rfl]
     rw [qa5,qfg]
     refine ⟨qaW (by omega) (by omega) (by decide) (by decide),qaT (SqL.of (sm _ _ f1)) (qgW (Nat.or_lt_two_pow hs pk)) ⟨_,rfl,qkQ (fun hc=>r1 (by rw [h1,hc];rfl) _ (qau.refl _)) fun hc=>r2 (by rw [h1,hc];rfl) _ (qau.refl _)⟩⟩
 · refine ⟨p1,rfl,_,.inl (SqL.of qai),?_⟩
   rw [List.length_map]
   exact q _ (sm.trans (qau.new hp))
abbrev qec:Stmt:=top 56
theorem qjg:qan ["many", "family", "table"] ["many", "family"] (qad qec):=⟨rfl,rfl,rfl,by decide +kernel,rfl,by decide +kernel,by decide +kernel⟩
def qg6 (K:W.Frag):Sp:=sp2 fun x y H Q=>∃(m:Nat) (p:Addr) (fs:List Nat),x = .int m∧m≤8∧y = .ref p∧H p=some (.lst (nV fs))∧∀H' p',H p'=none→qau H H'→H' p'=some (.lst (nV (Fam.trns m (Fam.sayP fs))))→Q (.ref p') H'
theorem qmq {f:Addr} {fd:FuncData} (F:Fun K "turns" "turns" qec f fd) (T:Txt mg) {f_41:Addr} {fd_41:FuncData} (C_41:Cal P w K mg base "table_of" 3 ["many", "family"] (qc0 K) f_41 fd_41) {f_33:Addr} {fd_33:FuncData} (C_33:Cal P w K mg base "turned_by" 1 ["many", "table", "k"] (qgX K) f_33 fd_33):qaZ P w K mg base CX0 4 f fd ["many", "family"] (qg6 K):=by
 have sc:=qjg
 refine F.ok qjg (fun vs H Q E h=>by obtain ⟨_,_,rfl,_⟩:=h;rfl) (fun cdv A outer s H vs Q E hr h=>?_)
 obtain ⟨x0,x1,rfl,h⟩:=h
 refine ⟨_,(qab (qax (i:=2) sc.nd rfl (Or.inr rfl) (qap C_41 hr (by decide) (by rfl) (qaa (pv 0) (qaa (pv 1) qac))))
   (qae (qah (qaQ (N:=["k", "many", "table"]) (nt:=1) (caps:=[0,2]) qaF rfl (qaO (by rfl) T.n_range (qaa (pv 0) qac)) (fun _ _ _ _ _=>(qas (i:=0) (show List.Nodup (α:=Str) ["k", "many", "table"] from by decide +kernel) rfl (Or.inl rfl))) qaJ (fun _ _ _ _ _=>qaY) (fun _ _ _ _ _=>(qap C_33 hr (by decide) (by rfl) (qaa (pv 1) (qaa (pv 2) (qaa (pv 0) qac))))))))),?_⟩
 refine rdg (σ':=[some x0,some x1,none]) rfl ?_
 obtain ⟨m,p,fs,rfl,hm,rfl,f1,q⟩:=h
 walk_at "rd"
 refine ⟨_,_,rfl,m,p,fs,rfl,hm,rfl,f1,fun G1 p1 hp1 t1 a1=>?_⟩
 (try walk_at "rd")
 refine ⟨by omega,by omega,?_⟩
 rw [Int.toNat_natCast]
 refine qdy (fun _=>true) (fun k => .int (Fam.trn m (Fam.sayP fs) k:Nat)) (by omega) (fun k hk H1 sm R R' r1 r2=>?_) fun H1 p2 sm hp=>?_
 · (try walk_at "rd")
   exact ⟨_,_,_,rfl,m,p1,_,k,rfl,hm,rfl,sm _ _ a1,rfl,hk,fun H2 s2=>r1 rfl _ s2⟩
 have e:((List.range m).filter fun _=>true).map (fun k=>V.int (Fam.trn m (Fam.sayP fs) k:Nat))=nV (Fam.trns m (Fam.sayP fs)):=by
   rw [List.filter_eq_self.mpr fun _ _=>rfl]
   simp [Fam.trns]
 rw [e]
 have t2:=t1.trans sm
 exact q _ p2 (qaD t2 hp) (t2.trans (qau.new hp)) qai
abbrev qa9:Stmt:=top 35
theorem qc1:qan ["numbers"] ["numbers"] (qad qa9):=⟨rfl,rfl,rfl,by decide +kernel,rfl,by decide +kernel,by decide +kernel⟩
def qsd (ns:List Nat):Str:=_root_.PySem.Txt.join " " (ns.map fun n=>Str.ofString (toString ((n:Nat):Int)))
theorem qoJ:∀n,n≤256→(Str.ofString (toString ((n:Nat):Int))).length≤3:=by
 have:∀n,n<257→(Str.ofString (toString ((n:Nat):Int))).length≤3:=by decide +kernel
 exact fun n h=>this n (by omega)
def qff (K:W.Frag):Sp:=sp1 fun x H Q=>∃(p:Addr) (ns:List Nat),x = .ref p∧H p=some (.lst (nV ns))∧ns.length≤9∧(∀n∈ns,n≤256)∧∀H',qau H H'→Q (.str (qsd ns)) H'
theorem qfT {f:Addr} {fd:FuncData} (F:Fun K "show_numbers" "show_numbers" qa9 f fd) (T:Txt mg)  : qaZ P w K mg base CX0 1 f fd ["numbers"] (qff K):=by
 have sc:=qc1
 refine F.ok qc1 (fun vs H Q E h=>by obtain ⟨_,rfl,_⟩:=h;rfl) (fun cdv A outer s H vs Q E hr h=>?_)
 obtain ⟨x0,rfl,h⟩:=h
 refine ⟨_,(qae (qah (qbp PySem.F.plainAttrs_str PySem.F.slot_str_join PySem.F.type_str_join (qbP (K:=K) rfl) qag (qaa (qaQ (N:=["number"]) (nt:=1) (caps:=[]) qaF rfl (qaM (pv 0)) (fun _ _ _ _ _=>(qas (i:=0) (show List.Nodup (α:=Str) ["number"] from by decide +kernel) rfl (Or.inl rfl))) qaJ (fun _ _ _ _ _=>qaY) (fun _ _ _ _ _=>(qck qij (by rfl) T.n_str PyProof.Rows.boot_str (qaa (pv 0) qac)))) qac)))),?_⟩
 refine rdg (σ':=[some x0]) rfl ?_
 obtain ⟨p,ns,rfl,f1,hl,hn,q⟩:=h
 walk_at "rd"
 refine ⟨rfl,⟨_,SqL.of f1⟩,qcX (fs:=ns) (fun _=>true) (fun n => .str (Str.ofString (toString ((n:Nat):Int)))) (SqL.of f1) (by omega) (fun n hm H2 s2 R R' r1 r2=>?_) fun H2 p3 s2 hp3=>?_⟩
 · (try walk_at "rd")
   have:=hn n hm
   exact ⟨by rw [Int.natAbs_natCast];exact Nat.lt_of_le_of_lt (Nat.log2_le_self n) (by omega),r1 rfl _ (qau.refl _)⟩
 · rw [List.filter_eq_self.mpr fun _ _=>rfl]
   rw [qeD]
   refine ⟨_,p3,_,rfl,rfl,SqL.of qai,qa2 (M:=3) (N:=9) (fun y hy=>?_) (by rw [List.length_map];exact hl) (by rw [Tx.lit_space];decide) (by decide),q _ (s2.trans (qau.new hp3))⟩
   obtain ⟨n,hm,rfl⟩:=List.mem_map.mp hy
   exact qoJ n (hn n hm)
abbrev qaG:Stmt:=top 36
theorem qbY:qan ["words", "told"] ["words", "told"] (qad qaG):=⟨rfl,rfl,rfl,by decide +kernel,rfl,by decide +kernel,by decide +kernel⟩
theorem qjU (as:List Nat) (i:Nat):(nV as)[i]?=(as[i]?).map fun b=>V.int (b:Nat):=by
 rw [nV,nI,List.map_map,List.getElem?_map]
 rfl
theorem qq6 {K:W.Frag} {g:TG} {σ:L2.St} {H:Hp} {a:Addr} {nt:Nat} {caps:List Nat} {tt:TT} {te:TE} {Q:VK} {as:List Nat} (f:Nat→V) (hq:H a=some (.tup (nV as))) (hz:as.length≤100000)
   (hs:∀x∈as,∀H1,qau H H1→∀(R:VK) (R':Hp→Prop),(∀H2,qau H1 H2→R (f x) H2)→g (.int (x:Nat)) (qbm nt caps σ) H1 fun σ4 H4=>tt σ4 H4 fun b H5=>if b=true then te σ4 H5 R else R' H5)
   (hd:∀H1 p,qau H H1→H1 p=none→Q (.ref p) (upd H1 p (.lst (as.map f)))):qdo (Itt K a) nt caps g tt te σ H Q:=by
 refine ⟨fun i m ys H1=>m=as.length-i∧i≤as.length∧ys=(as.take i).map f∧qau H H1,⟨_,rfl,Nat.zero_le _,rfl,qau.refl _⟩,?_⟩
 rintro i m ys H2 ⟨rfl,hi,rfl,s2⟩
 have hq2:SqT K H2 a (nV as):=SqT.of (s2 _ _ hq)
 by_cases hlt:i<as.length
 · refine .inr ⟨⟨nV as,.int (as[i]:Nat),hq2,by rw [qjU,List.getElem?_eq_getElem hlt];rfl⟩,Nat.le_trans (by rw [List.length_map,List.length_take];omega) (show 100000≤sizeLine by decide),fun x H3 y=>?_⟩
   obtain ⟨e,y⟩:=y
   subst e
   have hx:=y _ hq2
   rw [qjU,List.getElem?_eq_getElem hlt] at hx
   cases hx
   refine hs as[i] (List.getElem_mem hlt) _ s2 _ _ fun H4 s4=>⟨as.length-(i+1),by omega,rfl,hlt,?_,s2.trans s4⟩
   rw [List.take_add_one,List.getElem?_eq_getElem hlt,List.map_append]
   rfl
 · obtain rfl:i=as.length:=by omega
   exact .inl ⟨⟨nV as,hq2,by rw [qbz];exact Nat.le_refl _⟩,Nat.le_trans (by rw [List.length_map,List.length_take];omega) (show 100000≤sizeLine by decide),fun p hp=>by rw [List.take_length];exact hd H2 p s2 hp⟩
def wsT (ws:List Str) (d:Str) (as:List Nat):Str:=_root_.PySem.Txt.join " " (d::as.map (Tx.sT ws))
def qgI (K:W.Frag):Sp:=sp2 fun x y H Q=>∃(p t:Addr) (ws:List Str) (d:Str) (as:List Nat),x = .ref p∧H p=some (.lst (sV ws))∧Tx.Wds ws∧y = .ref t∧H t=some (.tup (.str d::nV as))∧d.length≤8∧as.length≤8∧(∀a∈as,a<2^ws.length)∧∀H',qau H H'→Q (.str (wsT ws d as)) H'
theorem qcW {f:Addr} {fd:FuncData} (F:Fun K "show_word_and_sets" "show_word_and_sets" qaG f fd) (T:Txt mg) {f_39:Addr} {fd_39:FuncData} (C_39:Cal P w K mg base "show_set" 2 ["words", "one"] (qcZ K) f_39 fd_39):qaZ P w K mg base CX0 3 f fd ["words", "told"] (qgI K):=by
 have sc:=qbY
 refine F.ok qbY (fun vs H Q E h=>by obtain ⟨_,_,rfl,_⟩:=h;rfl) (fun cdv A outer s H vs Q E hr h=>?_)
 obtain ⟨x0,x1,rfl,h⟩:=h
 refine ⟨_,(qae (qah (qbp PySem.F.plainAttrs_str PySem.F.slot_str_join PySem.F.type_str_join (qbP (K:=K) rfl) qag (qaa (qaq (qfc (K:=K) rfl) (qa7 (qaa (qaE (qbF (K:=K) rfl) (pv 1) qaf (fun _ _=>rfl)) qac)) (qaQ (N:=["one", "words"]) (nt:=1) (caps:=[0]) qaF rfl (qq8 (qbH (qor (K:=K) rfl) (pv 1) (qb2 qaf) qcx)) (fun _ _ _ _ _=>(qas (i:=0) (show List.Nodup (α:=Str) ["one", "words"] from by decide +kernel) rfl (Or.inl rfl))) qaJ (fun _ _ _ _ _=>qaY) (fun _ _ _ _ _=>(qap C_39 hr (by decide) (by rfl) (qaa (pv 1) (qaa (pv 0) qac)))))) qac)))),?_⟩
 refine rdg (σ':=[some x0,some x1]) rfl ?_
 obtain ⟨p,t,ws,d,as,rfl,f1,hw,rfl,f2,hd,hl,hb,q⟩:=h
 walk_at "rd"
 refine ⟨rfl,qcy (SqT.of f2) (qaL (j:=0) rfl) ⟨qaC (by simp),fun p1 hp1=>?_⟩⟩
 generalize g1:upd H p1 _=G1
 have a1:=qaw g1
 have s1:=qar g1 hp1
 refine ⟨t,_,rfl,SqT.of (s1 _ _ f2),?_,fun p2 hp2=>?_⟩
 · rw [show (1:Int)=((1:Nat):Int) from rfl,HT.sIx_nat,List.length_cons]
   omega
 rw [show (1:Int)=((1:Nat):Int) from rfl,qde,List.drop_succ_cons,List.drop_zero]
 generalize g2:upd G1 p2 _=G2
 have a2:=qaw g2
 have s2:=s1.trans (qar g2 hp2)
 have a1:=qar g2 hp2 _ _ a1
 refine ⟨p2,rfl,⟨_,SqT.of a2⟩,qq6 (fun b => .str (Tx.sT ws b)) a2 (by omega) (fun b hb' H3 s3 R R' r1=>?_) fun H3 p3 s3 hp3=>?_⟩
 · (try walk_at "rd")
   exact ⟨_,_,rfl,p,ws,b,rfl,s3 _ _ (s2 _ _ f1),hw,rfl,hb b hb',fun H4 s4=>r1 _ s4⟩
 rw [qeD]
 generalize g3:upd H3 p3 _=G3
 have a3:=qaw g3
 have s3':=s3.trans (qar g3 hp3)
 refine ⟨p1,p3,_,_,rfl,rfl,SqL.of (s3' _ _ a1),SqL.of a3,Nat.le_trans (by simp;omega) (show 100000≤sizeLine by decide),fun p4 hp4=>?_⟩
 refine ⟨_,p4,d::as.map (Tx.sT ws),rfl,rfl,SqL.of qai,qa2 (M:=72) (N:=9) (fun y hy=>?_) (by simp;omega) (by rw [Tx.lit_space];decide) (by decide),q _ ((s2.trans s3').trans (qau.new hp4))⟩
 rcases List.mem_cons.mp hy with rfl | hy
 · omega
 obtain ⟨b,hb',rfl⟩:=List.mem_map.mp hy
 exact Tx.sT_len hw (hb b hb')
abbrev qbi:Stmt:=top 37
theorem qdq:qan ["words", "told"] ["words", "told"] (qad qbi):=⟨rfl,rfl,rfl,by decide +kernel,rfl,by decide +kernel,by decide +kernel⟩
def lkT (ws:List Str) (fs:List Nat) (a k:Nat):Str:=ws.getD k Str.empty++Str.ofString ":" ++ Tx.sT ws ((qcw fs a k).getD 0)
def qel (ws:List Str) (fs:List Nat) (a:Nat):Str:=match qcD fs a with
 | some b=>wsT ws "misses" [b]
 | none=>match qhW fs a with
   | some k=>Str.ofString "spare " ++ ws.getD k Str.empty
   | none=>_root_.PySem.Txt.join " " (("least" : Str)::(Fam.nms 8 a).map (lkT ws fs a))
/-- what looked tells -/
def Lkd (H:Hp) (n:Nat) (fs:List Nat) (a:Nat) (t:Addr):Prop:=(∃b,qcD fs a=some b∧b<2^n∧H t=some (.tup [.str "misses",.int (b:Nat)])) ∨
 (qcD fs a=none∧∃k,qhW fs a=some k∧k<n∧H t=some (.tup [.str "spare",.int (k:Nat)])) ∨
 (qcD fs a=none∧qhW fs a=none∧∃(p':Addr) (ps:List Addr),H t=some (.tup [.str "least",.ref p'])∧H p'=some (.lst (ps.map V.ref))∧Rows H fs a (Fam.nms 8 a) ps)
def qmH (K:W.Frag):Sp:=sp2 fun x y H Q=>∃(p t:Addr) (ws:List Str) (fs:List Nat) (a:Nat),x = .ref p∧H p=some (.lst (sV ws))∧Tx.Wds ws∧y = .ref t∧Lkd H ws.length fs a t∧a<2^ws.length∧(∀b∈fs,b<2^ws.length)∧∀H',qau H H'→Q (.str (qel ws fs a)) H'
theorem qf5 {f:Addr} {fd:FuncData} (F:Fun K "show_looked" "show_looked" qbi f fd) (T:Txt mg) {f_01:Addr} {fd_01:FuncData} (C_01:Cal P w K mg base "show_word_and_sets" 3 ["words", "told"] (qgI K) f_01 fd_01) {f_39:Addr} {fd_39:FuncData} (C_39:Cal P w K mg base "show_set" 2 ["words", "one"] (qcZ K) f_39 fd_39):qaZ P w K mg base CX0 4 f fd ["words", "told"] (qmH K):=by
 have sc:=qdq
 refine F.ok qdq (fun vs H Q E h=>by obtain ⟨_,_,rfl,_⟩:=h;rfl) (fun cdv A outer s H vs Q E hr h=>?_)
 obtain ⟨x0,x1,rfl,h⟩:=h
 refine ⟨_,(qab (qaA (qaj (qay (K:=K) rfl hr.units0) (qaE (qbF (K:=K) rfl) (pv 1) qaf (fun _ _=>rfl)) qag (qao _)) (qae (qah (qaq qat qag (qaE (qbF (K:=K) rfl) (pv 0) (qaE (qbF (K:=K) rfl) (pv 1) qaf (fun _ _=>rfl)) (fun _ _=>rfl))))) qak)
   (qab (qaA (qaj (qay (K:=K) rfl hr.units0) (qaE (qbF (K:=K) rfl) (pv 1) qaf (fun _ _=>rfl)) qag (qao _)) (qae (qah (qap C_01 hr (by decide) (by rfl) (qaa (pv 0) (qaa (pv 1) qac))))) qak)
   (qae (qah (qbp PySem.F.plainAttrs_str PySem.F.slot_str_join PySem.F.type_str_join (qbP (K:=K) rfl) qag (qaa (qaq (qfc (K:=K) rfl) (qa7 (qaa qag qac)) (qaQ (N:=["k", "other", "words"]) (nt:=2) (caps:=[0]) qaF rfl (qaM (qaE (qbF (K:=K) rfl) (pv 1) qaf (fun _ _=>rfl))) (fun _ _ _ _ _=>(qjn (n:=2) rfl (qbV (qas (i:=0) (show List.Nodup (α:=Str) ["k", "other", "words"] from by decide +kernel) rfl (Or.inl rfl)) (qbV (qas (i:=1) (show List.Nodup (α:=Str) ["k", "other", "words"] from by decide +kernel) rfl (Or.inl rfl)) qe7)))) qlY (fun _ _ _ _ _=>qaY) (fun _ _ _ _ _=>(qaq qat (qaq qat (qaE (qbF (K:=K) rfl) (pv 2) (pv 0) (fun _ _=>rfl)) qag) (qap C_39 hr (by decide) (by rfl) (qaa (pv 2) (qaa (pv 1) qac))))))) qac)))))),?_⟩
 refine rdg (σ':=[some x0,some x1]) rfl ?_
 obtain ⟨p,t,ws,fs,a,rfl,f1,hw,rfl,hL,ha,hb,q⟩:=h
 walk_at "rd"
 have gw:∀k,k<ws.length→ws[k]?=some (ws.getD k Str.empty):=fun k hk=>by rw [List.getD_eq_getElem?_getD,List.getElem?_eq_getElem hk];rfl
 have gl:∀k,k<ws.length→(ws.getD k Str.empty).length≤8:=fun k hk=>(hw.wd _ (List.mem_of_getElem? (gw k hk))).2.1
 have zz:100000≤sizeLine:=by decide
 obtain ⟨b,e0,hb',f2⟩ | ⟨e0,k,ek,hk,f2⟩ | ⟨e0,ek,p',ps,f2,f3,hr⟩:=hL
 · unfold qel at q
   rw [e0] at q
   have n1:¬("misses" : Str)=Str.ofString "spare" := by decide +kernel
   have e1:decide (V.str ("misses" : Str)=V.str (Str.ofString "spare"))=false:=decide_eq_false fun e=>n1 (V.str.inj e)
   refine qcy (SqT.of f2) (qaL (j:=0) rfl) ⟨_,.inl ⟨rfl,rfl⟩,⟨false,congrArg V.bl e1,qcp (qcy (SqT.of f2) (qaL (j:=0) rfl) ⟨_,.inl ⟨rfl,rfl⟩,⟨true,congrArg V.bl (decide_eq_true rfl),qeT ?_⟩⟩)⟩⟩
   exact ⟨_,_,rfl,p,t,ws, "misses",[b],rfl,f1,hw,rfl,f2,by decide +kernel,by simp,fun x hx=>by rw [List.mem_singleton.mp hx];exact hb',q⟩
 · unfold qel at q
   rw [e0] at q
   dsimp only at q
   rw [ek] at q
   have z1:=gl k hk
   have z2:(Str.ofString "spare ").length=6:=by decide +kernel
   refine qcy (SqT.of f2) (qaL (j:=0) rfl) ⟨_,.inl ⟨rfl,rfl⟩,⟨true,congrArg V.bl (decide_eq_true rfl),qeT ?_⟩⟩
   refine qcy (SqT.of f2) (qaL (j:=1) rfl) (qaT (SqL.of f1) (qc3 (gw k hk)) ⟨_,rfl,by omega,q _ (qau.refl _)⟩)
 unfold qel at q
 rw [e0] at q
 dsimp only at q
 rw [ek] at q
 have n1:¬("least" : Str)=Str.ofString "spare" := by decide +kernel
 have n2:¬("least" : Str)=Str.ofString "misses" := by decide +kernel
 have e1:decide (V.str ("least" : Str)=V.str (Str.ofString "spare"))=false:=decide_eq_false fun e=>n1 (V.str.inj e)
 have e2:decide (V.str ("least" : Str)=V.str (Str.ofString "misses"))=false:=decide_eq_false fun e=>n2 (V.str.inj e)
 have gk:∀k∈Fam.nms 8 a,k<ws.length:=fun k hk=>Tx.nms_lt ha hk
 have gw2:∀k,k<ws.length→ws[k]?=some (ws.getD k Str.empty):=fun k hk=>by rw [List.getD_eq_getElem?_getD,List.getElem?_eq_getElem hk];rfl
 have gl2:∀k,k<ws.length→(ws.getD k Str.empty).length≤8:=fun k hk=>(hw.wd _ (List.mem_of_getElem? (gw k hk))).2.1
 have gc:(Str.ofString ":").length=1:=by decide +kernel
 have gs:∀k,k<ws.length→(ws.getD k Str.empty++Str.ofString ":").length≤9:=fun k hk=>by
   rw [Str.length_append,gc]
   have:=gl k hk
   omega
 refine qcy (SqT.of f2) (qaL (j:=0) rfl) ⟨_,.inl ⟨rfl,rfl⟩,⟨false,congrArg V.bl e1,qcp (qcy (SqT.of f2) (qaL (j:=0) rfl) ⟨_,.inl ⟨rfl,rfl⟩,⟨false,congrArg V.bl e2,qcp ⟨rfl,qaC (by simp),fun p1 hp1=>?_⟩⟩⟩)⟩⟩
 generalize g1:upd H p1 _=G1
 have a1:=qaw g1
 have s1:=qar g1 hp1
 have l8:(Fam.nms 8 a).length≤8:=Nat.le_trans (List.length_filter_le _ _) (by simp)
 have lp:=hr.1
 refine qcy (SqT.of (s1 _ _ f2)) (qaL (j:=1) rfl) ⟨p',rfl,⟨_,SqL.of (s1 _ _ f3)⟩,qhQ (xs:=ps.map V.ref) (fun i ys H1=>qau G1 H1∧ys=sV (((Fam.nms 8 a).take i).map (lkT ws fs a))) ⟨qau.refl _,rfl⟩ (Nat.le_trans (by rw [List.length_map];omega) (show 100000≤sizeLine by decide)) (fun i ys H1 hi h=>⟨SqL.of (h.1 _ _ (s1 _ _ f3)),by rw [h.2,qaS,List.length_map,List.length_take];omega⟩) (fun i x ys H1 hx h R R' r1 r2=>?_) fun ys H1 h p3 hp3=>?_⟩
 · obtain ⟨s3,rfl⟩:=h
   rw [List.getElem?_map] at hx
   cases er:ps[i]? with
   | none=>rw [er] at hx;cases hx
   | some r =>
     rw [er] at hx
     cases hx
     have hi:i<(Fam.nms 8 a).length:=by
       have:=(List.getElem?_eq_some_iff.mp er).1
       omega
     obtain ⟨o,eo,ho⟩:=hr.2 i _ r (List.getElem?_eq_getElem hi) er
     (try walk_at "rd")
     have hk:=List.getElem_mem hi
     have ob:=hb o (List.mem_of_find?_eq_some eo)
     generalize ek:(Fam.nms 8 a)[i]=k at eo ho hk
     have kl:=gk k hk
     have z1:=gl k kl
     have z2:=gs k kl
     have z3:=Tx.sT_len hw ob
     have zz:100000≤sizeLine:=by decide
     refine ⟨_,SqT.of (s3 _ _ (s1 _ _ ho)),rfl,_,_,rfl,_,_,rfl,rfl,qaT (SqL.of (s3 _ _ (s1 _ _ f1))) (qc3 (gw k kl)) ⟨_,rfl,by omega,_,_,rfl,p,ws,o,rfl,s3 _ _ (s1 _ _ f1),hw,rfl,ob,fun H4 s4=>⟨_,rfl,by omega,r1 _ _ ⟨s3.trans s4,?_⟩⟩⟩⟩
     rw [List.take_add_one,List.getElem?_eq_getElem hi,ek,List.map_append]
     show _=List.map V.str (_++_)
     rw [List.map_append]
     show _=_++[V.str (lkT ws fs a k)]
     unfold lkT
     rw [eo]
     rfl
 obtain ⟨s3,rfl⟩:=h
 generalize g3:upd H1 p3 _=G3
 have a3:=qaw g3
 have s3':=s3.trans (qar g3 hp3)
 rw [List.length_map,lp,List.take_length] at a3
 refine ⟨p1,p3,_,_,rfl,rfl,SqL.of (s3' _ _ a1),SqL.of a3,Nat.le_trans (by simp;omega) (show 100000≤sizeLine by decide),fun p4 hp4=>?_⟩
 refine ⟨_,p4,("least" : Str)::(Fam.nms 8 a).map (lkT ws fs a),rfl,rfl,SqL.of qai,qa2 (M:=100) (N:=9) (fun y hy=>?_) (by simp;omega) (by rw [Tx.lit_space];decide) (by decide),q _ ((s1.trans s3').trans (qau.new hp4))⟩
 rcases List.mem_cons.mp hy with rfl | hy
 · decide +kernel
 obtain ⟨k,hk,rfl⟩:=List.mem_map.mp hy
 have kl:=gk k hk
 have z2:=gs k kl
 obtain ⟨j,hj,ej⟩:=List.getElem_of_mem hk
 obtain ⟨o,eo,ho⟩:=hr.2 j k (ps[j]'(by omega)) (by rw [List.getElem?_eq_getElem hj,ej]) (List.getElem?_eq_getElem _)
 unfold lkT
 rw [Str.length_append,eo]
 have z3:=Tx.sT_len hw (hb o (List.mem_of_find?_eq_some eo))
 show _+(Tx.sT ws o).length≤_
 omega
abbrev qdk:Stmt:=top 59
theorem qhJ:qan ["counts", "lists", "count"] ["counts"] (qad qdk):=⟨rfl,rfl,rfl,by decide +kernel,rfl,by decide +kernel,by decide +kernel⟩
def qho (K:W.Frag):Sp:=sp1 fun x H Q=>∃(p:Addr) (cs:List Nat),x = .ref p∧H p=some (.lst (nV cs))∧cs.length≤8∧∀(p':Addr) (ps:List Addr) (H':Hp),qau H H'→qkd H H' p' (rkd cs) ps→Q (.ref p') H'
theorem qlA {f:Addr} {fd:FuncData} (F:Fun K "ranked" "ranked" qdk f fd) (T:Txt mg)  : qaZ P w K mg base CX0 1 f fd ["counts"] (qho K):=by
 have sc:=qhJ
 refine F.ok qhJ (fun vs H Q E h=>by obtain ⟨_,rfl,_⟩:=h;rfl) (fun cdv A outer s H vs Q E hr h=>?_)
 obtain ⟨x0,rfl,h⟩:=h
 refine ⟨_,(qab (qax (i:=1) sc.nd rfl (Or.inl rfl) (qa7 qac))
   (qab (qbo PassesOwn.never rfl (qiN (K:=K) rfl (by rfl) T.n_reversed (qaa (qaB (qej (P:=P) (w:=w) (K:=K) rfl rfl rfl rfl) (by rfl) T.n_sorted PyProof.Rows.boot_sorted (qaa (qck (qfC (P:=P) (w:=w) (K:=K) rfl rfl rfl rfl) (by rfl) T.n_set PyProof.Rows.boot_set (qaa (pv 0) qac)) qac)) qac)) (qas (i:=2) sc.nd rfl (Or.inr rfl)) (qae (qdb (qbp PySem.F.plainAttrs_list PySem.F.slot_list_append PySem.F.type_list_append qcj (pv 1) (qaa (qaQ (N:=["k", "turned", "count"]) (nt:=2) (caps:=[2]) qaF rfl (qpa (K:=K) rfl (by rfl) T.n_enumerate (qaa (pv 0) qac)) (fun _ _ _ _ _=>(qjn (n:=2) rfl (qbV (qas (i:=0) (show List.Nodup (α:=Str) ["k", "turned", "count"] from by decide +kernel) rfl (Or.inl rfl)) (qbV (qas (i:=1) (show List.Nodup (α:=Str) ["k", "turned", "count"] from by decide +kernel) rfl (Or.inl rfl)) qe7)))) qlY (fun _ _ _ _ _=>(qcv (qaj (qay (K:=K) rfl hr.units0) (pv 1) (pv 2) (qao _)))) (fun _ _ _ _ _=>(pv 0))) qac)))))
   (qae (qah (pv 1))))),?_⟩
 refine rdg (σ':=[some x0,none,none]) rfl ?_
 obtain ⟨p,cs,rfl,f1,hl,q⟩:=h
 walk_at "rd"
 refine ⟨qaC (by simp),fun p0 hp0=>?_⟩
 generalize g0:upd H p0 _=G0
 have a0:=qaw g0
 have t0:=qar g0 hp0
 refine ⟨p,_,rfl,SqL.of (t0 _ _ f1),by simp;omega,fun p1 hp1=>?_⟩
 generalize g1:upd G0 p1 _=G1
 have a1:=qaw g1
 have t1:=t0.trans (qar g1 hp1)
 have a0:=qar g1 hp1 _ _ a0
 refine ⟨p1,_,rfl,.inr a1,Nat.le_trans (qea _) (by simp;omega),fun p2 ms hp2 m1 m2=>?_⟩
 have lsd:=qo1 cs hl
 rw [qfP m1 m2]
 generalize g2:upd G1 p2 _=G2
 have a2:=qaw g2
 have t2:=t1.trans (qar g2 hp2)
 have n02:=qgr hp2 a0
 have a0:=qar g2 hp2 _ _ a0
 refine ⟨p2,rfl,_,SqL.of a2,?_⟩
 refine qqo (fs:=sd cs) (fun i σ H3=>∃(v:Option V) (ps:List Addr),σ=[some (.ref p),some (.ref p0),v]∧qau H H3∧H3 p2=some (.lst (nV (sd cs)))∧qkd H H3 p0 (((sd cs).reverse.take i).map (rkV cs)) ps∧∀r∈ps,r≠p0) ⟨none,[],rfl,t2,a2,⟨hp0,a0,rfl,fun j r L z=>(by cases z)⟩,fun r hr=>(by cases hr)⟩ (fun i σ H3 _ ⟨_,_,_,_,e,_⟩=>SqL.of e) ?_ ?_
 · rintro i b σ H3 hbi ⟨v,ps,rfl,s3,b2,L3,hne⟩ N hN
   have lps:ps.length≤8:=by
     rw [L3.2.2.1,List.length_map,List.length_take,List.length_reverse]
     omega
   (try walk_at "rd")
   refine ⟨qb5 L3.2.1,_,SqL.of (s3 _ _ f1),qp1 (fs:=cs) (fun _ x=>decide (x=b)) (fun k => .int (k:Nat)) (SqL.of (s3 _ _ f1)) (by omega) (fun k x hx R R' H4 t s4 at4 r1 r2=>?_) fun H4 p4 s4 hp4=>?_⟩
   · (try walk_at "rd")
     refine ⟨_,SqT.of at4,rfl,_,_,rfl,_,_,rfl,rfl,?_⟩
     (try walk_at "rd")
     exact qiW (b:=decide (x=b)) (by rw [decide_eq_true_eq];omega) r1 r2
   rw [qfm,show ((List.range cs.length).filter fun i=>decide (cs.getD i 0=b))=rkV cs b from rfl]
   generalize g4:upd H4 p4 _=G4
   have a4:=qaw g4
   have s4':=s4.trans (qar g4 hp4)
   have n4:=qgr hp4 (s4 _ _ L3.2.1)
   have L4:=L3.mono s4'
   refine ⟨p0,_,_,rfl,rfl,L4.2.1,qcL (by rw [List.length_map];omega),?_⟩
   refine hN _ _ ⟨_,ps++[p4],rfl,(s3.trans s4').upd hp0,by rw [qaz (Ne.symm n02)];exact s4' _ _ b2,?_,fun r hr=>?_⟩
   · rw [List.take_add_one,hbi,List.map_append]
     exact L4.snoc (qaD (s3.trans s4) hp4) a4 hne (Ne.symm n4)
   · rcases List.mem_append.mp hr with z | z
     · exact hne r z
     · rw [show r=p4 by simpa using z];exact Ne.symm n4
 · rintro σ H3 ⟨v,ps,rfl,s3,b2,L3,hne⟩
   rw [←List.length_reverse,List.take_length] at L3
   (try walk_at "rd")
   exact q p0 ps _ s3 L3
abbrev qee:Stmt:=top 58
theorem qjz:qan ["many", "family", "table", "x", "y", "told"] ["many", "family"] (qad qee):=⟨rfl,rfl,rfl,by decide +kernel,rfl,by decide +kernel,by decide +kernel⟩
/-- what ranks tells,its objects new to H0 -/
def Rkd (H0 H:Hp) (m:Nat) (f:Nat→Bool) (t:Addr):Prop:=H0 t=none∧((∃x y s u:Nat,x<y∧y<m∧qmJ m f x y∧Fam.part m f x y=some s∧Fam.part m f y x=some u∧H t=some (.tup [.str "apart",.int (x:Nat),.int (y:Nat),.int (s:Nat),.int (u:Nat)])) ∨
 qmJ m f m 0∧∃(p':Addr) (ps:List Addr),H t=some (.tup [.str "ranks",.ref p'])∧qkd H0 H p' (rkd (Fam.trns m f)) ps)
theorem Rkd.mono {H0 H H':Hp} {m:Nat} {f:Nat→Bool} {t:Addr} (h:Rkd H0 H m f t) (s:qau H H'):Rkd H0 H' m f t:=by
 obtain ⟨h0,⟨x,y,u,v,h1,h2,h3,h4,h5,h6⟩ | ⟨h1,p',ps,h2,h3⟩⟩:=h
 · exact ⟨h0,.inl ⟨x,y,u,v,h1,h2,h3,h4,h5,s _ _ h6⟩⟩
 · exact ⟨h0,.inr ⟨h1,p',ps,s _ _ h2,h3.mono s⟩⟩
def qi4 (K:W.Frag):Sp:=sp2 fun x y H Q=>∃(m:Nat) (p:Addr) (fs:List Nat),x = .int m∧m≤8∧y = .ref p∧H p=some (.lst (nV fs))∧∀t H',qau H H'→Rkd H H' m (Fam.sayP fs) t→Q (.ref t) H'
theorem qma {f:Addr} {fd:FuncData} (F:Fun K "ranks" "ranks" qee f fd) (T:Txt mg) {f_41:Addr} {fd_41:FuncData} (C_41:Cal P w K mg base "table_of" 3 ["many", "family"] (qc0 K) f_41 fd_41) {f_53:Addr} {fd_53:FuncData} (C_53:Cal P w K mg base "ranked" 1 ["counts"] (qho K) f_53 fd_53) {f_16:Addr} {fd_16:FuncData} (C_16:Cal P w K mg base "compared_in" 3 ["many", "table", "x", "y"] (qcr K) f_16 fd_16) {f_58:Addr} {fd_58:FuncData} (C_58:Cal P w K mg base "turns" 4 ["many", "family"] (qg6 K) f_58 fd_58):qaZ P w K mg base CX0 5 f fd ["many", "family"] (qi4 K):=by
 have sc:=qjz
 refine F.ok qjz (fun vs H Q E h=>by obtain ⟨_,_,rfl,_⟩:=h;rfl) (fun cdv A outer s H vs Q E hr h=>?_)
 obtain ⟨x0,x1,rfl,h⟩:=h
 refine ⟨_,(qab (qax (i:=2) sc.nd rfl (Or.inl rfl) (qap C_41 hr (by decide) (by rfl) (qaa (pv 0) (qaa (pv 1) qac))))
   (qab (qbo PassesOwn.never rfl (qaO (by rfl) T.n_range (qaa (pv 0) qac)) (qas (i:=3) sc.nd rfl (Or.inl rfl)) (qae (qbo PassesOwn.never rfl (qlr (by rfl) T.n_range (qaa (qaq qcJ (pv 3) qaf) (qaa (pv 0) qac))) (qas (i:=4) sc.nd rfl (Or.inl rfl)) (qab (qax (i:=5) sc.nd rfl (Or.inl rfl) (qap C_16 hr (by decide) (by rfl) (qaa (pv 0) (qaa (pv 2) (qaa (pv 3) (qaa (pv 4) qac))))))
   (qae (qaA (qaj (qay (K:=K) rfl hr.units0) (qaE (qbF (K:=K) rfl) (pv 5) qaf (fun _ _=>rfl)) qag (qao _)) (qae (qah (qct (qaa qag (qaa (pv 3) (qaa (pv 4) (qaa (qaE (qbF (K:=K) rfl) (pv 5) qaf (fun _ _=>rfl)) (qaa (qaE (qbF (K:=K) rfl) (pv 5) qaf (fun _ _=>rfl)) qac)))))))) qak))))))
   (qae (qah (qct (qaa qag (qaa (qap C_53 hr (by decide) (by rfl) (qaa (qap C_58 hr (by decide) (by rfl) (qaa (pv 0) (qaa (pv 1) qac))) qac)) qac))))))),?_⟩
 refine rdg (σ':=[some x0,some x1,none,none,none,none]) rfl ?_
 obtain ⟨m,p,fs,rfl,hm,rfl,f1,q⟩:=h
 walk_at "rd"
 refine ⟨_,_,rfl,m,p,fs,rfl,hm,rfl,f1,fun G1 p1 hp1 t1 a1=>?_⟩
 (try walk_at "rd")
 refine ⟨by omega,by omega,?_⟩
 rw [Int.toNat_natCast]
 refine qgf (fun x σ H3=>∃v1 v2 v3,σ=[some (.int m),some (.ref p),some (.ref p1),v1,v2,v3]∧qau G1 H3∧qmJ m (Fam.sayP fs) x 0) ⟨none,none,none,rfl,qau.refl _,fun x' y' h1 h2 h3=>(by omega)⟩ ?_ ?_
 · rintro x σ H3 hx ⟨v1,v2,v3,rfl,s3,h3⟩ N hN
   (try walk_at "rd")
   refine ⟨_,_,⟨rfl,rfl⟩,⟨by omega,by omega,by omega,by omega⟩,qqW (lo:=x+1) (by simp) (fun j σ H4=>∃v2 v3,σ=[some (.int m),some (.ref p),some (.ref p1),some (.int (x:Nat)),v2,v3]∧qau G1 H4∧qmJ m (Fam.sayP fs) x (x+1+j)) ⟨_,_,rfl,s3,fun x' y' h1 h2 h4=>?_⟩ ?_ ?_⟩
   · rcases h4 with z | z
     · exact h3 x' y' h1 h2 (.inl z)
     · omega
   · rintro j σ H4 hj ⟨v2,v3,rfl,s4,h4⟩ N2 hN2
     have hy:x+1+j<m:=by omega
     generalize ey:x+1+j=y at *
     (try walk_at "rd")
     refine ⟨_,_,_,_,rfl,m,p1,Fam.sayP fs,x,y,rfl,hm,rfl,SqL.of (s4 _ _ a1),rfl,hx,rfl,hy,fun t G5 ht s5 at5=>?_⟩
     (try walk_at "rd")
     have s5':=s4.trans s5
     unfold qmR at at5
     have nx:Fam.part m (Fam.sayP fs) x y=none∨Fam.part m (Fam.sayP fs) y x=none→qmJ m (Fam.sayP fs) x (x+1+(j+1)):=fun z x' y' h1 h2 h5=>by
       by_cases c:x'=x∧y'=y
       · rw [c.1,c.2];exact z
       · exact h4 x' y' h1 h2 (by omega)
     cases e1:Fam.part m (Fam.sayP fs) x y with
     | none =>
       cases e2:Fam.part m (Fam.sayP fs) y x with
       | none =>
         rw [e1,e2] at at5
         refine qcy (SqT.of at5) rfl (eqS false (by decide) ⟨_,rfl,qcp (hN2 _ _ ⟨_,_,rfl,s5',nx (.inl e1)⟩)⟩)
       | some u =>
         rw [e1,e2] at at5
         refine qcy (SqT.of at5) rfl (eqS false (by decide) ⟨_,rfl,qcp (hN2 _ _ ⟨_,_,rfl,s5',nx (.inl e1)⟩)⟩)
     | some s =>
       cases e2:Fam.part m (Fam.sayP fs) y x with
       | none =>
         rw [e1,e2] at at5
         refine qcy (SqT.of at5) rfl (eqS false (by decide) ⟨_,rfl,qcp (hN2 _ _ ⟨_,_,rfl,s5',nx (.inr e2)⟩)⟩)
       | some u =>
         rw [e1,e2] at at5
         refine qcy (SqT.of at5) rfl (eqS true (by decide) ⟨_,rfl,qeT ?_⟩)
         refine qcy (SqT.of at5) rfl (qcy (SqT.of at5) rfl ⟨qaC (by simp),fun t6 ht6=>?_⟩)
         have s6:=(t1.trans s5').trans (qau.new (o := .tup [.str "apart",.int (x:Nat),.int (y:Nat),.int (s:Nat),.int (u:Nat)]) ht6)
         refine q t6 _ s6 ⟨qaD (t1.trans s5') ht6,.inl ⟨x,y,s,u,by omega,hy,h4,e1,e2,qai⟩⟩
   · rintro σ H4 ⟨v2,v3,rfl,s4,h4⟩
     refine hN _ _ ⟨_,_,_,rfl,s4,fun x' y' h1 h2 h5=>h4 x' y' h1 h2 (by omega)⟩
 · rintro σ H3 ⟨v1,v2,v3,rfl,s3,h3⟩
   (try walk_at "rd")
   have t3:=t1.trans s3
   refine ⟨_,_,rfl,m,p,fs,rfl,hm,rfl,t3 _ _ f1,fun G5 p5 hp5 t5 a5=>?_⟩
   (try walk_at "rd")
   refine ⟨_,rfl,p5,_,rfl,a5,by rw [qg9];exact hm,fun p6 ps G6 t6 L6=>⟨qaC (by simp),fun t ht=>?_⟩⟩
   have s6:=(t3.trans t5).trans t6
   refine q t _ (s6.trans (qau.new ht)) ⟨qaD s6 ht,.inr ⟨h3,p6,ps,qai,?_⟩⟩
   exact (L6.back (t3.trans t5)).mono (qau.new ht)
abbrev qbD:Stmt:=top 39
theorem qdY:qan ["words", "names"] ["words", "names"] (qad qbD):=⟨rfl,rfl,rfl,by decide +kernel,rfl,by decide +kernel,by decide +kernel⟩
def alT (ws:List Str) (ks:List Nat):Str:=_root_.PySem.Txt.join "=" (ks.map fun k=>ws.getD k Str.empty)
theorem qkE:("=" : Str)=⟨#[61]⟩:=by decide +kernel
theorem qp4 {ws:List Str} (hw:Tx.Wds ws) {ks:List Nat} (hl:ks.length≤8) (hk:∀k∈ks,k<ws.length):(alT ws ks).length≤100:=by
 unfold alT
 rw [←Tx.len_sg,qkE,Tx.txt_join]
 refine Nat.le_trans (Tx.jn_len (M:=8) fun x hx=>?_) (show _*9≤_ by rw [List.length_map,List.length_map];omega)
 obtain ⟨w,hw',rfl⟩:=List.mem_map.mp hx
 obtain ⟨k,hk',rfl⟩:=List.mem_map.mp hw'
 rw [Tx.len_sg,List.getD_eq_getElem?_getD,List.getElem?_eq_getElem (hk k hk')]
 exact (hw.wd _ (List.getElem_mem _)).2.1
def qr2 (K:W.Frag):Sp:=sp2 fun x y H Q=>∃(p p2:Addr) (ws:List Str) (ks:List Nat),x = .ref p∧H p=some (.lst (sV ws))∧Tx.Wds ws∧y = .ref p2∧H p2=some (.lst (nV ks))∧ks.length≤8∧(∀k∈ks,k<ws.length)∧∀H',qau H H'→Q (.str (alT ws ks)) H'
theorem qg4 {f:Addr} {fd:FuncData} (F:Fun K "show_alike" "show_alike" qbD f fd) (T:Txt mg)  : qaZ P w K mg base CX0 1 f fd ["words", "names"] (qr2 K):=by
 have sc:=qdY
 refine F.ok qdY (fun vs H Q E h=>by obtain ⟨_,_,rfl,_⟩:=h;rfl) (fun cdv A outer s H vs Q E hr h=>?_)
 obtain ⟨x0,x1,rfl,h⟩:=h
 refine ⟨_,(qae (qah (qbp PySem.F.plainAttrs_str PySem.F.slot_str_join PySem.F.type_str_join (qbP (K:=K) rfl) qag (qaa (qaQ (N:=["k", "words"]) (nt:=1) (caps:=[0]) qaF rfl (qaM (pv 1)) (fun _ _ _ _ _=>(qas (i:=0) (show List.Nodup (α:=Str) ["k", "words"] from by decide +kernel) rfl (Or.inl rfl))) qaJ (fun _ _ _ _ _=>qaY) (fun _ _ _ _ _=>(qaE (qbF (K:=K) rfl) (pv 1) (pv 0) (fun _ _=>rfl)))) qac)))),?_⟩
 refine rdg (σ':=[some x0,some x1]) rfl ?_
 obtain ⟨p,p2,ws,ks,rfl,f1,hw,rfl,f2,hl,hk,q⟩:=h
 have gw:∀k,k<ws.length→ws[k]?=some (ws.getD k Str.empty):=fun k hk=>by rw [List.getD_eq_getElem?_getD,List.getElem?_eq_getElem hk];rfl
 have gl:∀k,k<ws.length→(ws.getD k Str.empty).length≤8:=fun k hk=>(hw.wd _ (List.mem_of_getElem? (gw k hk))).2.1
 walk_at "rd"
 refine ⟨rfl,⟨_,SqL.of f2⟩,qcX (fs:=ks) (fun _=>true) (fun k => .str (ws.getD k Str.empty)) (SqL.of f2) (by omega) (fun k hm H2 s2 R R' r1 r2=>?_) fun H2 p3 s2 hp3=>?_⟩
 · (try walk_at "rd")
   exact qaT (SqL.of (s2 _ _ f1)) (qc3 (gw k (hk k hm))) (r1 rfl _ (qau.refl _))
 · rw [List.filter_eq_self.mpr fun _ _=>rfl,qeD]
   refine ⟨_,p3,_,rfl,rfl,SqL.of qai,qa2 (M:=8) (N:=8) (fun y hy=>?_) (by rw [List.length_map];exact hl) (by rw [qkE];decide) (by decide),q _ (s2.trans (qau.new hp3))⟩
   obtain ⟨k,hk',rfl⟩:=List.mem_map.mp hy
   exact gl k (hk k hk')
abbrev qbB:Stmt:=top 38
theorem qd1:qan ["words", "told"] ["words", "told"] (qad qbB):=⟨rfl,rfl,rfl,by decide +kernel,rfl,by decide +kernel,by decide +kernel⟩
def rkT (ws:List Str) (L:List (List Nat)):Str:=_root_.PySem.Txt.join " " (("ranks" : Str)::L.map (alT ws))
def apT (ws:List Str) (x y:Nat):Str:=_root_.PySem.Txt.join " " [("apart" : Str),ws.getD x Str.empty,ws.getD y Str.empty]
/-- what may be told of ranks -/
def RkT (ws:List Str) (f:Nat→Bool) (t:Str):Prop:=(∃x y s u:Nat,x<y∧y<ws.length∧qmJ ws.length f x y∧Fam.part ws.length f x y=some s∧Fam.part ws.length f y x=some u∧t=apT ws x y)∨(qmJ ws.length f ws.length 0∧t=rkT ws (rkd (Fam.trns ws.length f)))
def qom (K:W.Frag):Sp:=sp2 fun x y H Q=>∃(p t:Addr) (ws:List Str) (f:Nat→Bool) (H0:Hp),x = .ref p∧H p=some (.lst (sV ws))∧Tx.Wds ws∧y = .ref t∧Rkd H0 H ws.length f t∧∀z H',RkT ws f z→qau H H'→Q (.str z) H'
theorem qhn {f:Addr} {fd:FuncData} (F:Fun K "show_ranks" "show_ranks" qbB f fd) (T:Txt mg) {f_25:Addr} {fd_25:FuncData} (C_25:Cal P w K mg base "show_alike" 1 ["words", "names"] (qr2 K) f_25 fd_25):qaZ P w K mg base CX0 2 f fd ["words", "told"] (qom K):=by
 have sc:=qd1
 refine F.ok qd1 (fun vs H Q E h=>by obtain ⟨_,_,rfl,_⟩:=h;rfl) (fun cdv A outer s H vs Q E hr h=>?_)
 obtain ⟨x0,x1,rfl,h⟩:=h
 refine ⟨_,(qab (qaA (qaj (qay (K:=K) rfl hr.units0) (qaE (qbF (K:=K) rfl) (pv 1) qaf (fun _ _=>rfl)) qag (qao _)) (qae (qah (qbp PySem.F.plainAttrs_str PySem.F.slot_str_join PySem.F.type_str_join (qbP (K:=K) rfl) qag (qaa (qa7 (qaa qag (qaa (qaE (qbF (K:=K) rfl) (pv 0) (qaE (qbF (K:=K) rfl) (pv 1) qaf (fun _ _=>rfl)) (fun _ _=>rfl)) (qaa (qaE (qbF (K:=K) rfl) (pv 0) (qaE (qbF (K:=K) rfl) (pv 1) qaf (fun _ _=>rfl)) (fun _ _=>rfl)) qac)))) qac)))) qak)
   (qae (qah (qbp PySem.F.plainAttrs_str PySem.F.slot_str_join PySem.F.type_str_join (qbP (K:=K) rfl) qag (qaa (qaq (qfc (K:=K) rfl) (qa7 (qaa qag qac)) (qaQ (N:=["names", "words"]) (nt:=1) (caps:=[0]) qaF rfl (qaM (qaE (qbF (K:=K) rfl) (pv 1) qaf (fun _ _=>rfl))) (fun _ _ _ _ _=>(qas (i:=0) (show List.Nodup (α:=Str) ["names", "words"] from by decide +kernel) rfl (Or.inl rfl))) qaJ (fun _ _ _ _ _=>qaY) (fun _ _ _ _ _=>(qap C_25 hr (by decide) (by rfl) (qaa (pv 1) (qaa (pv 0) qac)))))) qac))))),?_⟩
 refine rdg (σ':=[some x0,some x1]) rfl ?_
 obtain ⟨p,t,ws,f,H0,rfl,f1,hw,rfl,hR,q⟩:=h
 have gw:∀k,k<ws.length→ws[k]?=some (ws.getD k Str.empty):=fun k hk=>by rw [List.getD_eq_getElem?_getD,List.getElem?_eq_getElem hk];rfl
 have gl:∀k,k<ws.length→(ws.getD k Str.empty).length≤8:=fun k hk=>(hw.wd _ (List.mem_of_getElem? (gw k hk))).2.1
 have h8:=hw.few
 walk_at "rd"
 have zz:100000≤sizeLine:=by decide
 obtain ⟨h0,⟨x,y,s,u,hxy,hy,hno,e1,e2,f2⟩ | ⟨hno,p',ps,f2,L⟩⟩:=hR
 · have kx:=gl x (by omega)
   have ky:=gl y hy
   refine qcy (SqT.of f2) (qaL (j:=0) rfl) ⟨_,.inl ⟨rfl,rfl⟩,⟨true,congrArg V.bl (decide_eq_true rfl),qeT ⟨rfl,?_⟩⟩⟩
   refine qcy (SqT.of f2) (qaL (j:=1) rfl) (qaT (SqL.of f1) (qc3 (gw x (by omega))) (qcy (SqT.of f2) (qaL (j:=2) rfl) (qaT (SqL.of f1) (qc3 (gw y hy)) ⟨qaC (by simp),fun p1 hp1=>?_⟩)))
   refine ⟨_,p1,[("apart" : Str),ws.getD x Str.empty,ws.getD y Str.empty],rfl,rfl,SqL.of qai,qa2 (M:=8) (N:=3) (fun z hz=>?_) (by simp) (by rw [Tx.lit_space];decide) (by decide),q _ _ (.inl ⟨x,y,s,u,hxy,hy,hno,e1,e2,rfl⟩) (qau.new hp1)⟩
   rcases List.mem_cons.mp hz with rfl | hz
   · decide +kernel
   rcases List.mem_cons.mp hz with rfl | hz
   · exact kx
   · rw [List.mem_singleton.mp hz]
     exact ky
 have n1:¬("ranks" : Str)=Str.ofString "apart" := by decide +kernel
 have e1:decide (V.str ("ranks" : Str)=V.str (Str.ofString "apart"))=false:=decide_eq_false fun e=>n1 (V.str.inj e)
 refine qcy (SqT.of f2) (qaL (j:=0) rfl) ⟨_,.inl ⟨rfl,rfl⟩,⟨false,congrArg V.bl e1,qcp ⟨rfl,qaC (by simp),fun p1 hp1=>?_⟩⟩⟩
 generalize g1:upd H p1 _=G1
 have a1:=qaw g1
 have s1:=qar g1 hp1
 have gL:∀l∈rkd (Fam.trns ws.length f),l.length≤8∧∀k∈l,k<ws.length:=fun l hl=>by
   obtain ⟨b,_,rfl⟩:=List.mem_map.mp hl
   unfold rkV
   rw [qg9]
   exact ⟨Nat.le_trans (List.length_filter_le _ _) (by rw [List.length_range];exact h8),fun k hk=>List.mem_range.mp (List.mem_filter.mp hk).1⟩
 have lR:(rkd (Fam.trns ws.length f)).length≤8:=by
   unfold rkd
   rw [List.length_map,List.length_reverse]
   exact qo1 _ (by rw [qg9];exact h8)
 generalize eLL:rkd (Fam.trns ws.length f)=LL at L gL lR
 have lps:=L.2.2.1
 refine qcy (SqT.of (s1 _ _ f2)) (qaL (j:=1) rfl) ⟨p',rfl,⟨_,SqL.of (s1 _ _ L.2.1)⟩,qhQ (xs:=ps.map V.ref) (fun i ys H1=>qau G1 H1∧ys=sV ((LL.take i).map (alT ws))) ⟨qau.refl _,rfl⟩ (qaC (by rw [List.length_map];omega)) (fun i ys H1 hi h=>⟨SqL.of (h.1 _ _ (s1 _ _ L.2.1)),by rw [h.2,qaS,List.length_map,List.length_take];omega⟩) (fun i x ys H1 hx h R R' r1 r2=>?_) fun ys H1 h p3 hp3=>?_⟩
 · obtain ⟨s3,rfl⟩:=h
   rw [List.getElem?_map] at hx
   cases er:ps[i]? with
   | none=>rw [er] at hx;cases hx
   | some r =>
     rw [er] at hx
     cases hx
     have hi:i<LL.length:=by
       have:=(List.getElem?_eq_some_iff.mp er).1
       omega
     have el:LL[i]?=some LL[i]:=List.getElem?_eq_getElem hi
     have hq:=(L.2.2.2 i r _ er el).2
     obtain ⟨gl1,gl2⟩:=gL _ (List.mem_of_getElem? el)
     (try walk_at "rd")
     refine ⟨_,_,rfl,p,r,ws,LL[i],rfl,s3 _ _ (s1 _ _ f1),hw,rfl,s3 _ _ (s1 _ _ hq),gl1,gl2,fun H4 s4=>r1 _ _ ⟨s3.trans s4,?_⟩⟩
     rw [List.take_add_one,el,List.map_append]
     show _=List.map V.str (_++_)
     rw [List.map_append]
     rfl
 obtain ⟨s3,rfl⟩:=h
 generalize g3:upd H1 p3 _=G3
 have a3:=qaw g3
 have s3':=s3.trans (qar g3 hp3)
 rw [List.length_map,lps,List.take_length] at a3
 refine ⟨p1,p3,_,_,rfl,rfl,SqL.of (s3' _ _ a1),SqL.of a3,qaC (by simp;omega),fun p4 hp4=>?_⟩
 refine ⟨_,p4,("ranks" : Str)::LL.map (alT ws),rfl,rfl,SqL.of qai,qa2 (M:=100) (N:=9) (fun y hy=>?_) (by simp;omega) (by rw [Tx.lit_space];decide) (by decide),q _ _ (.inr ⟨hno,by rw [eLL];rfl⟩) ((s1.trans s3').trans (qau.new hp4))⟩
 rcases List.mem_cons.mp hy with rfl | hy
 · decide +kernel
 obtain ⟨l,hl,rfl⟩:=List.mem_map.mp hy
 exact qp4 hw (gL l hl).1 (gL l hl).2
abbrev qbr:Stmt:=top 69
theorem qgL:qan ["many", "family", "told"] ["many", "family"] (qad qbr):=⟨rfl,rfl,rfl,by decide +kernel,rfl,by decide +kernel,by decide +kernel⟩
theorem qgS {f:Addr} {fd:FuncData} (F:Fun K "by_weights" "by_weights" qbr f fd) (T:Txt mg):qaZ P w K mg base CX0 1 f fd ["many", "family"] qfE:=F.ok qgL (fun vs H Q E h=>absurd h id) (fun cdv A outer s H vs Q E hr h=>absurd h id)
abbrev qa8:Stmt:=top 40
theorem qfu:qan ["words", "told", "yes", "no"] ["words", "told"] (qad qa8):=⟨rfl,rfl,rfl,by decide +kernel,rfl,by decide +kernel,by decide +kernel⟩
theorem qfO {f:Addr} {fd:FuncData} (F:Fun K "show_weights" "show_weights" qa8 f fd) (T:Txt mg):qaZ P w K mg base CX0 1 f fd ["words", "told"] qfE:=F.ok qfu (fun vs H Q E h=>absurd h id) (fun cdv A outer s H vs Q E hr h=>absurd h id)
abbrev qaP:Stmt:=top 83
theorem qcs:qan ["many", "family", "x", "y"] ["many", "family", "x", "y"] (qad qaP):=⟨rfl,rfl,rfl,by decide +kernel,rfl,by decide +kernel,by decide +kernel⟩
def qpu (K:W.Frag):Sp:=sp4 fun u v x y H Q=>∃(m:Nat) (p:Addr) (fs:List Nat) (i j:Nat),u = .int m∧m≤8∧v = .ref p∧H p=some (.lst (nV fs))∧x = .int i∧i<m∧y = .int j∧j<m∧i≠j∧∀t H',H t=none→qau H H'→H' t=some (.tup (qmR m (Fam.sayP fs) i j))→Q (.ref t) H'
theorem qdV {f:Addr} {fd:FuncData} (F:Fun K "compared_unlike" "compared_unlike" qaP f fd) (T:Txt mg) {f_42:Addr} {fd_42:FuncData} (C_42:Cal P w K mg base "compared" 4 ["many", "family", "x", "y"] (qev K) f_42 fd_42):qaZ P w K mg base CX0 5 f fd ["many", "family", "x", "y"] (qpu K):=by
 have sc:=qcs
 refine F.ok qcs (fun vs H Q E h=>by obtain ⟨_,_,_,_,rfl,_⟩:=h;rfl) (fun cdv A outer s H vs Q E hr h=>?_)
 obtain ⟨x0,x1,x2,x3,rfl,h⟩:=h
 refine ⟨_,(qab (qaA (qaj (qay (K:=K) rfl hr.units0) (pv 2) (pv 3) (qao _)) (qae qbj) qak)
   (qae (qah (qap C_42 hr (by decide) (by rfl) (qaa (pv 0) (qaa (pv 1) (qaa (pv 2) (qaa (pv 3) qac)))))))),?_⟩
 refine rdg (σ':=[some x0,some x1,some x2,some x3]) rfl ?_
 obtain ⟨m,p,fs,i,j,rfl,hm,rfl,f1,rfl,hi,rfl,hj,hij,q⟩:=h
 walk_at "rd"
 rw [if_neg (by omega)]
 exact ⟨_,_,_,_,rfl,m,p,fs,i,j,rfl,hm,rfl,f1,rfl,hi,rfl,hj,q⟩
abbrev qci:Stmt:=top 80
theorem qfs:qan ["word"] ["word"] (qad qci):=⟨rfl,rfl,rfl,by decide +kernel,rfl,by decide +kernel,by decide +kernel⟩
def qfD:Sp:=sp1 fun x H Q=>∃w:Str,x = .str w∧Tx.Wd w∧∀H',qau H H'→Q (.str w) H'
theorem qiv {f:Addr} {fd:FuncData} (F:Fun K "new_name" "new_name" qci f fd) (T:Txt mg) {f_47:Addr} {fd_47:FuncData} (C_47:Cal P w K mg base "is_word" 1 ["text"] qe0 f_47 fd_47):qaZ P w K mg base CX0 2 f fd ["word"] qfD:=by
 have sc:=qfs
 refine F.ok qfs (fun vs H Q E h=>by obtain ⟨_,rfl,_⟩:=h;rfl) (fun cdv A outer s H vs Q E hr h=>?_)
 obtain ⟨x0,rfl,h⟩:=h
 refine ⟨_,(qab (qaA (qb4 (qbn (qap C_47 hr (by decide) (by rfl) (qaa (pv 0) qac)))) (qae qbj) qak)
   (qae (qah (pv 0)))),?_⟩
 refine rdg (σ':=[some x0]) rfl ?_
 obtain ⟨w,rfl,hw,q⟩:=h
 walk_at "rd"
 exact ⟨_,rfl,w,rfl,hw,fun H' s'=>⟨true,rfl,by rw [if_neg (by decide)];exact q _ s'⟩⟩
abbrev qcc:Stmt:=top 79
theorem qfr:qan ["row", "deed", "parts"] ["row"] (qad qcc):=⟨rfl,rfl,rfl,by decide +kernel,rfl,by decide +kernel,by decide +kernel⟩
def qe2 (K:W.Frag):Sp:=sp1 fun x H Q=>∃(z d:Str) (r ks:List Str),x = .str z∧Prt z d r ks∧∀p H',H p=none→qau H H'→H' p=some (.lst (sV (d::r)))→Q (.ref p) H'
theorem qiL {f:Addr} {fd:FuncData} (F:Fun K "parts_of" "parts_of" qcc f fd) (T:Txt mg) {cD aW:Addr} (Z:Xt P w K mg cD aW)  : qaZ P w K mg base CX0 1 f fd ["row"] (qe2 K):=by
 have sc:=qfr
 refine F.ok qfr (fun vs H Q E h=>by obtain ⟨_,rfl,_⟩:=h;rfl) (fun cdv A outer s H vs Q E hr h=>?_)
 obtain ⟨x0,rfl,h⟩:=h
 refine ⟨_,(qab (qaA (qb4 (qbn (qaB qco (by rfl) T.n_isinstance PyProof.Rows.boot_isinstance (qaa (pv 0) (qaa (qfl (v := .ty "str") (by rfl) T.n_str PyProof.Rows.boot_str rfl) qac))))) (qae qbj) qak)
   (qab (qax (i:=1) sc.nd rfl (Or.inl rfl) (qaE (qbF (K:=K) rfl) (qbp PySem.F.plainAttrs_str PySem.F.slot_str_split PySem.F.type_str_split qbW (pv 0) (qaa qag qac)) qaf (fun _ _=>rfl)))
   (qab (qaA (qkW (qnW (P:=P) (w:=w) (K:=K) rfl rfl rfl (pv 1) (qer (v := .ref aW) (by rfl) Z.gW rfl)) (by with_unfolding_all rfl)) (qae qbj) qak)
   (qab (qax (i:=2) sc.nd rfl (Or.inl rfl) (qjb (qaj (qay (K:=K) rfl hr.units0) (pv 1) qag (qao _)) (qbp PySem.F.plainAttrs_str PySem.F.slot_str_split PySem.F.type_str_split qlp (pv 0) (qaa qag (qaa qaf qac))) (qbp PySem.F.plainAttrs_str PySem.F.slot_str_split PySem.F.type_str_split qbW (pv 0) (qaa qag qac))))
   (qab (qaA (qaj (qbC (K:=K) rfl hr.units0) (qaB (qaN (K:=K) rfl) (by rfl) T.n_len PySem.boot_len (qaa (pv 2) qac)) (qaq qcJ (qaB (qaN (K:=K) rfl) (by rfl) T.n_len PySem.boot_len (qaa (qiC (P:=P) (w:=w) (K:=K) rfl rfl rfl (qer (v := .ref aW) (by rfl) Z.gW rfl) (pv 1) (fun _ _=>rfl)) qac)) qaf) (qao _)) (qae qbj) qak)
   (qae (qah (pv 2)))))))),?_⟩
 refine rdg (σ':=[some x0,none,none]) rfl ?_
 obtain ⟨z,d,r,ks,rfl,hP,q⟩:=h
 obtain ⟨kvs,kd1,kd2⟩:=Z.wn.kv
 obtain ⟨t,vt,ht⟩:=kd2 d ks hP.kd
 have hz:=hP.sz
 have hln:=hP.ln
 walk_at "rd"
 refine ⟨_, "str",⟨rfl,rfl⟩, "str",rfl,by decide,?_⟩
 rw [if_neg (by decide)]
 refine ⟨rfl,z,_,rfl,rfl,by rw [Tx.lit_space];rfl,by omega,fun p1 hp1=>?_⟩
 generalize g1:upd H p1 _=G1
 have a1:=qaw g1
 have s1:=qar g1 hp1
 refine qaT (SqL.of a1) (qc3 hP.hd) ⟨kvs,Sum.inr d,rfl,kd1,false,by rw [vt];rfl,?_⟩
 rw [if_neg (by decide)]
 (try walk_at "rd")
 have hps:=hP.ps
 by_cases hl:d=("let" : Str)
 · rw [if_pos hl] at hps
   rw [if_pos hl]
   refine ⟨rfl,z,_,2,rfl,rfl,by rw [Tx.lit_space];rfl,by omega,by decide,fun p2 hp2=>?_⟩
   rw [show _root_.PySem.Txt.splitMax z " " ((2:Nat):Int)=d::r from hps]
   refine ⟨p2,rfl,_,.inl (SqL.of qai),kvs,Sum.inr d,rfl,kd1,_,vt,t,rfl,_,.inr (ht _),?_⟩
   rw [qaS,qaS,List.length_cons]
   exact ⟨false,by rw [decide_eq_true (by omega)];rfl,qcp (q p2 _ (qaD s1 hp2) (s1.trans (qau.new hp2)) qai)⟩
 · rw [if_neg hl] at hps
   rw [if_neg hl]
   refine ⟨rfl,z,_,rfl,rfl,by rw [Tx.lit_space];rfl,by omega,fun p2 hp2=>?_⟩
   rw [hps]
   refine ⟨p2,rfl,_,.inl (SqL.of qai),kvs,Sum.inr d,rfl,kd1,_,vt,t,rfl,_,.inr (ht _),?_⟩
   rw [qaS,qaS,List.length_cons]
   exact ⟨false,by rw [decide_eq_true (by omega)];rfl,qcp (q p2 _ (qaD s1 hp2) (s1.trans (qau.new hp2)) qai)⟩
abbrev qa1:Stmt:=qfp (top 78) 0
theorem qcP:qan ["self", "text"] ["self", "text"] (qad qa1):=⟨rfl,rfl,rfl,by decide +kernel,rfl,by decide +kernel,by decide +kernel⟩
def qkv (cD:Addr):Sp:=sp2 fun x y H Q=>∃(d dx:Addr) (ws:List Str),x = .ref d∧H d=some (.ins cD dx [])∧y = .str (_root_.PySem.Txt.join " " ws)∧Tx.Wds ws∧∀pk H',H pk=none→qfj cD H' d pk ws []→SmB d H H'→Q .non H'
theorem qeR {f:Addr} {fd:FuncData} (F:Fun K "__init__" "Desk.__init__" qa1 f fd) (T:Txt mg) {cD aW:Addr} (Z:Xt P w K mg cD aW) {f_23:Addr} {fd_23:FuncData} (C_23:Cal P w K mg base "read_names" 2 ["text"] (qdE K) f_23 fd_23):qaZ P w K mg base CX0 3 f fd ["self", "text"] (qkv cD):=by
 have sc:=qcP
 refine F.ok qcP (fun vs H Q E h=>by obtain ⟨_,_,rfl,_⟩:=h;rfl) (fun cdv A outer s H vs Q E hr h=>?_)
 obtain ⟨x0,x1,rfl,h⟩:=h
 refine ⟨_,(qab (qnF (pv 0) (qap C_23 hr (by decide) (by rfl) (qaa (pv 1) qac)) rfl)
   (qae (qnF (pv 0) qmz rfl))),?_⟩
 refine rdg (σ':=[some x0,some x1]) rfl ?_
 obtain ⟨d,dx,ws,rfl,hd,rfl,hw,q⟩:=h
 walk_at "rd"
 refine ⟨_,rfl,ws,rfl,hw,fun pw H1 hpw s1 a1=>?_⟩
 (try walk_at "rd")
 have npd:pw≠d:=fun e=>by rw [e,hd] at hpw;cases hpw
 refine ⟨cD,dx,[],s1 _ _ hd,Z.cl,Z.nw,by decide,fun pk hpk=>?_⟩
 have nkd:pk≠d:=fun e=>by rw [e,qai] at hpk;cases hpk
 rw [qaz nkd] at hpk
 have nkw:pk≠pw:=fun e=>by rw [e,a1] at hpk;cases hpk
 refine ⟨cD,dx,_,by rw [qaz (Ne.symm nkd),qai],Z.cl,Z.nk,by show 1<1000;decide,?_⟩
 rw [qmo]
 refine q pk _ (qaD s1 hpk) ⟨⟨dx,pw,qai,by rw [qaz npd,qaz (Ne.symm nkw),qaz npd];exact a1⟩,⟨[],by rw [qaz nkd,qai],rfl,fun n=>rfl⟩,hw,fun n fs h=>(by cases h),by decide⟩ fun b o e hb=>?_
 rw [qaz hb,qaz (qba (s1 _ _ e) hpk),qaz hb]
 exact s1 _ _ e
abbrev qaU:Stmt:=qfp (top 78) 3
theorem qcF:qan ["self", "word"] ["self", "word"] (qad qaU):=⟨rfl,rfl,rfl,by decide +kernel,rfl,by decide +kernel,by decide +kernel⟩
def qiw (cD:Addr):Sp:=sp2 fun x y H Q=>∃(d pk:Addr) (ws:List Str) (m:List (Str×List Nat)) (n:Str) (fs:List Nat),x = .ref d∧qfj cD H d pk ws m∧y = .str n∧m.lookup n=some fs∧∀p,H p=some (.lst (nV fs))→Q (.ref p) H
theorem qek {f:Addr} {fd:FuncData} (F:Fun K "family_by" "Desk.family_by" qaU f fd) (T:Txt mg) {cD aW:Addr} (Z:Xt P w K mg cD aW)  : qaZ P w K mg base CX0 1 f fd ["self", "word"] (qiw cD):=by
 have sc:=qcF
 refine F.ok qcF (fun vs H Q E h=>by obtain ⟨_,_,rfl,_⟩:=h;rfl) (fun cdv A outer s H vs Q E hr h=>?_)
 obtain ⟨x0,x1,rfl,h⟩:=h
 refine ⟨_,(qab (qaA (qkW (qht (qni hr) (pv 1) (qdv (pv 0) rfl)) (by with_unfolding_all rfl)) (qae qbj) qak)
   (qae (qah (qow (qni hr) (qdv (pv 0) rfl) (pv 1) (fun _ _=>rfl))))),?_⟩
 refine rdg (σ':=[some x0,some x1]) rfl ?_
 obtain ⟨d,pk,ws,m,n,fs,rfl,D,rfl,hn,q⟩:=h
 obtain ⟨dx,pw,o1,o2⟩:=D.ob
 obtain ⟨kvs,k1,k2⟩:=D.dc
 obtain ⟨p,v1,v2⟩:=k2.get hn
 walk_at "rd"
 refine ⟨cD,dx,_,o1,Z.cl,Z.nk,_,qik _ _,pk,rfl,_,qke.k (k:=Sum.inr n) k1,false,by rw [v1];rfl,qcp ?_⟩
 exact ⟨cD,dx,_,o1,Z.cl,Z.nk,_,qik _ _,pk,rfl,_,(by have:=qke.k (k:=Sum.inr n) k1;rw [v1] at this;exact this),q p v2⟩
abbrev qaI:Stmt:=qfp (top 78) 4
theorem qbX:qan ["self", "name"] ["self", "name"] (qad qaI):=⟨rfl,rfl,rfl,by decide +kernel,rfl,by decide +kernel,by decide +kernel⟩
def qkp (cD:Addr):Sp:=sp2 fun x y H Q=>∃(d pk:Addr) (ws:List Str) (m:List (Str×List Nat)) (n:Str),x = .ref d∧qfj cD H d pk ws m∧y = .str n∧(m.lookup n≠none∨m.length<20)∧Q .non H
theorem qc7 {f:Addr} {fd:FuncData} (F:Fun K "look_for_room" "Desk.look_for_room" qaI f fd) (T:Txt mg) {cD aW:Addr} (Z:Xt P w K mg cD aW)  : qaZ P w K mg base CX0 1 f fd ["self", "name"] (qkp cD):=by
 have sc:=qbX
 refine F.ok qbX (fun vs H Q E h=>by obtain ⟨_,_,rfl,_⟩:=h;rfl) (fun cdv A outer s H vs Q E hr h=>?_)
 obtain ⟨x0,x1,rfl,h⟩:=h
 refine ⟨_,(qae (qaA (PW.pt (qdz (qkW (qht (qni hr) (pv 1) (qdv (pv 0) rfl)) (by with_unfolding_all rfl)) (qcO (qaj qrI (qaB qlT (by rfl) T.n_len PySem.boot_len (qaa (qdv (pv 0) rfl) qac)) (qeV T.c_MOST_KEPT (by rfl)) (qao _))))) (qae qbj) qak)),?_⟩
 refine rdg (σ':=[some x0,some x1]) rfl ?_
 obtain ⟨d,pk,ws,m,n,rfl,D,rfl,hn,q⟩:=h
 obtain ⟨dx,pw,o1,o2⟩:=D.ob
 obtain ⟨kvs,k1,k2⟩:=D.dc
 walk_at "rd"
 refine ⟨cD,dx,_,o1,Z.cl,Z.nk,_,qik _ _,pk,rfl,_,qke.k (k:=Sum.inr n) k1,?_⟩
 cases e:m.lookup n with
 | some fs =>
   obtain ⟨p,v1,_⟩:=k2.get e
   exact ⟨false,by rw [v1];rfl,qcp q⟩
 | none =>
   have v1:=k2.no e
   refine ⟨true,by rw [v1];rfl,qeT ⟨cD,dx,_,o1,Z.cl,Z.nk,_,qik _ _,pk,rfl,_,k1,?_⟩⟩
   have:m.length<20:=by
     rcases hn with h | h
     · exact absurd e h
     · exact h
   rw [if_neg (by rw [k2.1];omega)]
   exact q
abbrev qa0:Stmt:=qfp (top 78) 2
theorem qcT:qan ["self", "kind", "word"] ["self", "kind", "word"] (qad qa0):=⟨rfl,rfl,rfl,by decide +kernel,rfl,by decide +kernel,by decide +kernel⟩
def qix (cD:Addr):Sp:=sp3 fun x y z H Q=>∃(d pk:Addr) (ws:List Str) (m:List (Str×List Nat)) (k w:Str) (th:Th),x = .ref d∧qfj cD H d pk ws m∧y = .str k∧z = .str w∧Thg ws m k w th∧∀v H',qau H H'→ThV H' th v→Q v H'
theorem qeM {f:Addr} {fd:FuncData} (F:Fun K "thing_of" "Desk.thing_of" qa0 f fd) (T:Txt mg) {cD aW:Addr} (Z:Xt P w K mg cD aW) {f_15:Addr} {fd_15:FuncData} (C_15:Cal P w K mg base "read_family" 4 ["words", "text"] (qf0 K) f_15 fd_15) {f_43:Addr} {fd_43:FuncData} (C_43:Cal P w K mg base "new_name" 2 ["word"] qfD f_43 fd_43) {f_05:Addr} {fd_05:FuncData} (C_05:qfe P w K mg base cD "family_by" 1 ["self", "word"] (qiw cD) f_05 fd_05) {f_31:Addr} {fd_31:FuncData} (C_31:Cal P w K mg base "read_name" 1 ["words", "word"] (qdj K) f_31 fd_31) {f_40:Addr} {fd_40:FuncData} (C_40:Cal P w K mg base "read_set" 2 ["words", "text"] (qdI K) f_40 fd_40):qaZ P w K mg base CX0 5 f fd ["self", "kind", "word"] (qix cD):=by
 have sc:=qcT
 refine F.ok qcT (fun vs H Q E h=>by obtain ⟨_,_,_,rfl,_⟩:=h;rfl) (fun cdv A outer s H vs Q E hr h=>?_)
 obtain ⟨x0,x1,x2,rfl,h⟩:=h
 refine ⟨_,(qab (qaA (qaj (qay (K:=K) rfl hr.units0) (pv 1) qag (qao _)) (qae (qah (qap C_43 hr (by decide) (by rfl) (qaa (pv 2) qac)))) qak)
   (qab (qaA (qaj (qay (K:=K) rfl hr.units0) (pv 1) qag (qao _)) (qae (qah (qaK (pv 0) Z.cl C_05 hr (by decide) (qaa (pv 2) qac)))) qak)
   (qab (qaA (qaj (qay (K:=K) rfl hr.units0) (pv 1) qag (qao _)) (qae (qah (qap C_31 hr (by decide) (by rfl) (qaa (qdv (pv 0) rfl) (qaa (pv 2) qac))))) qak)
   (qab (qaA (qaj (qay (K:=K) rfl hr.units0) (pv 1) qag (qao _)) (qae (qah (qap C_40 hr (by decide) (by rfl) (qaa (qdv (pv 0) rfl) (qaa (pv 2) qac))))) qak)
   (qae (qah (qap C_15 hr (by decide) (by rfl) (qaa (qdv (pv 0) rfl) (qaa (pv 2) qac))))))))),?_⟩
 refine rdg (σ':=[some x0,some x1,some x2]) rfl ?_
 obtain ⟨d,pk,ws,m,k,w,th,rfl,D,rfl,rfl,hT,q⟩:=h
 obtain ⟨dx,pw,o1,o2⟩:=D.ob
 walk_at "rd"
 have hw:=D.wd
 have h8:=hw.few
 have n1:¬(Str.ofString "family" = Str.ofString "new"):=by decide +kernel
 have n2:¬(Str.ofString "name" = Str.ofString "new"):=by decide +kernel
 have n3:¬(Str.ofString "name" = Str.ofString "family"):=by decide +kernel
 have n4:¬(Str.ofString "set" = Str.ofString "new"):=by decide +kernel
 have n5:¬(Str.ofString "set" = Str.ofString "family"):=by decide +kernel
 have n6:¬(Str.ofString "set" = Str.ofString "name"):=by decide +kernel
 have n7:¬(Str.ofString "text" = Str.ofString "new"):=by decide +kernel
 have n8:¬(Str.ofString "text" = Str.ofString "family"):=by decide +kernel
 have n9:¬(Str.ofString "text" = Str.ofString "name"):=by decide +kernel
 have n10:¬(Str.ofString "text" = Str.ofString "set"):=by decide +kernel
 cases hT with
 | new h =>
   rw [if_pos rfl]
   exact ⟨_,rfl,w,rfl,h,fun H' s'=>q _ _ s' rfl⟩
 | @fam _ fs h =>
   rw [if_neg n1,if_pos rfl]
   exact ⟨dx,_,o1,qaX _ _ (by decide +kernel) (by decide +kernel),_,_,rfl,d,pk,ws,m,w,fs,rfl,D,rfl,h,fun p hp=>q _ _ (qau.refl _) ⟨p,rfl,hp⟩⟩
 | name h =>
   rw [if_neg n2,if_neg n3,if_pos rfl]
   exact ⟨cD,dx,_,o1,Z.cl,Z.nw,_,qia _ _,_,_,rfl,pw,ws,w,rfl,o2,h8,rfl,h,q _ _ (qau.refl _) rfl⟩
 | @set a h =>
   rw [if_neg n4,if_neg n5,if_neg n6,if_pos rfl]
   exact ⟨cD,dx,_,o1,Z.cl,Z.nw,_,qia _ _,_,_,rfl,pw,ws,a,rfl,o2,hw,rfl,h,fun H' s'=>q _ _ s' rfl⟩
 | @text fs h =>
   rw [if_neg n7,if_neg n8,if_neg n9,if_neg n10]
   exact ⟨cD,dx,_,o1,Z.cl,Z.nw,_,qia _ _,_,_,rfl,pw,ws,fs,rfl,o2,hw,rfl,h.lt,h.rise,h.few,fun p' H' hp' s' a'=>q _ _ s' ⟨p',rfl,a'⟩⟩
abbrev qgx:Stmt:=top 81
theorem qlE:qan ["many", "deed", "things"] ["many", "deed", "things"] (qad qgx):=⟨rfl,rfl,rfl,by decide +kernel,rfl,by decide +kernel,by decide +kernel⟩
inductive MkR (n:Nat):Str→List Th→List Nat→Prop
 | let {fs:List Nat}:MkR n "let" [.fm fs] fs
 | hits {fs:List Nat}:Fml n fs→MkR n "hits" [.fm fs] (Fam.hits n fs)
def qlD (K:W.Frag):Sp:=sp3 fun x y z H Q=>∃(n:Nat) (deed:Str) (p:Addr) (vs:List V) (ths:List Th) (gs:List Nat),x = .int (n:Nat)∧n≤8∧y = .str deed∧z = .ref p∧H p=some (.lst vs)∧qhB H ths vs∧MkR n deed ths gs∧∀p' H',qau H H'→H' p'=some (.lst (nV gs))→Q (.ref p') H'
theorem qoy {f:Addr} {fd:FuncData} (F:Fun K "made" "made" qgx f fd) (T:Txt mg) {f_24:Addr} {fd_24:FuncData} (C_24:Cal P w K mg base "always_out" 1 ["family", "k"] qfE f_24 fd_24) {f_62:Addr} {fd_62:FuncData} (C_62:Cal P w K mg base "hits" 3 ["many", "family"] (qkX K) f_62 fd_62) {f_57:Addr} {fd_57:FuncData} (C_57:Cal P w K mg base "rests" 1 ["many", "family"] qfE f_57 fd_57) {f_51:Addr} {fd_51:FuncData} (C_51:Cal P w K mg base "either" 1 ["one", "other"] qfE f_51 fd_51) {f_63:Addr} {fd_63:FuncData} (C_63:Cal P w K mg base "both" 1 ["one", "other"] qfE f_63 fd_63) {f_32:Addr} {fd_32:FuncData} (C_32:Cal P w K mg base "always_in" 1 ["family", "k"] qfE f_32 fd_32):qaZ P w K mg base CX0 4 f fd ["many", "deed", "things"] (qlD K):=by
 have sc:=qlE
 refine F.ok qlE (fun vs H Q E h=>by obtain ⟨_,_,_,rfl,_⟩:=h;rfl) (fun cdv A outer s H vs Q E hr h=>?_)
 obtain ⟨x0,x1,x2,rfl,h⟩:=h
 refine ⟨_,(qab (qaA (qaj (qay (K:=K) rfl hr.units0) (pv 1) qag (qao _)) (qae (qah (qaE (qbF (K:=K) rfl) (pv 2) qaf (fun _ _=>rfl)))) qak)
   (qab (qaA (qaj (qay (K:=K) rfl hr.units0) (pv 1) qag (qao _)) (qae (qah (qap C_62 hr (by decide) (by rfl) (qaa (pv 0) (qaa (qaE (qbF (K:=K) rfl) (pv 2) qaf (fun _ _=>rfl)) qac))))) qak)
   (qab (qaA (qaj (qay (K:=K) rfl hr.units0) (pv 1) qag (qao _)) (qae (qah (qap C_57 hr (by decide) (by rfl) (qaa (pv 0) (qaa (qaE (qbF (K:=K) rfl) (pv 2) qaf (fun _ _=>rfl)) qac))))) qak)
   (qab (qaA (qaj (qay (K:=K) rfl hr.units0) (pv 1) qag (qao _)) (qae (qah (qap C_51 hr (by decide) (by rfl) (qaa (qaE (qbF (K:=K) rfl) (pv 2) qaf (fun _ _=>rfl)) (qaa (qaE (qbF (K:=K) rfl) (pv 2) qaf (fun _ _=>rfl)) qac))))) qak)
   (qab (qaA (qaj (qay (K:=K) rfl hr.units0) (pv 1) qag (qao _)) (qae (qah (qap C_63 hr (by decide) (by rfl) (qaa (qaE (qbF (K:=K) rfl) (pv 2) qaf (fun _ _=>rfl)) (qaa (qaE (qbF (K:=K) rfl) (pv 2) qaf (fun _ _=>rfl)) qac))))) qak)
   (qab (qaA (qaj (qay (K:=K) rfl hr.units0) (pv 1) qag (qao _)) (qae (qah (qap C_32 hr (by decide) (by rfl) (qaa (qaE (qbF (K:=K) rfl) (pv 2) qaf (fun _ _=>rfl)) (qaa (qaE (qbF (K:=K) rfl) (pv 2) qaf (fun _ _=>rfl)) qac))))) qak)
   (qae (qah (qap C_24 hr (by decide) (by rfl) (qaa (qaE (qbF (K:=K) rfl) (pv 2) qaf (fun _ _=>rfl)) (qaa (qaE (qbF (K:=K) rfl) (pv 2) qaf (fun _ _=>rfl)) qac))))))))))),?_⟩
 refine rdg (σ':=[some x0,some x1,some x2]) rfl ?_
 obtain ⟨n,deed,p,vs,ths,gs,rfl,hn,rfl,rfl,f1,hv,hM,q⟩:=h
 walk_at "rd"
 have n_hits_let:¬(Str.ofString "hits" = Str.ofString "let"):=by decide +kernel
 have n_rests_let:¬(Str.ofString "rests" = Str.ofString "let"):=by decide +kernel
 have n_either_let:¬(Str.ofString "either" = Str.ofString "let"):=by decide +kernel
 have n_both_let:¬(Str.ofString "both" = Str.ofString "let"):=by decide +kernel
 have n_in_let:¬(Str.ofString "in" = Str.ofString "let"):=by decide +kernel
 have n_out_let:¬(Str.ofString "out" = Str.ofString "let"):=by decide +kernel
 have n_rests_hits:¬(Str.ofString "rests" = Str.ofString "hits"):=by decide +kernel
 have n_either_hits:¬(Str.ofString "either" = Str.ofString "hits"):=by decide +kernel
 have n_both_hits:¬(Str.ofString "both" = Str.ofString "hits"):=by decide +kernel
 have n_in_hits:¬(Str.ofString "in" = Str.ofString "hits"):=by decide +kernel
 have n_out_hits:¬(Str.ofString "out" = Str.ofString "hits"):=by decide +kernel
 have n_either_rests:¬(Str.ofString "either" = Str.ofString "rests"):=by decide +kernel
 have n_both_rests:¬(Str.ofString "both" = Str.ofString "rests"):=by decide +kernel
 have n_in_rests:¬(Str.ofString "in" = Str.ofString "rests"):=by decide +kernel
 have n_out_rests:¬(Str.ofString "out" = Str.ofString "rests"):=by decide +kernel
 have n_both_either:¬(Str.ofString "both" = Str.ofString "either"):=by decide +kernel
 have n_in_either:¬(Str.ofString "in" = Str.ofString "either"):=by decide +kernel
 have n_out_either:¬(Str.ofString "out" = Str.ofString "either"):=by decide +kernel
 have n_in_both:¬(Str.ofString "in" = Str.ofString "both"):=by decide +kernel
 have n_out_both:¬(Str.ofString "out" = Str.ofString "both"):=by decide +kernel
 have n_out_in:¬(Str.ofString "out" = Str.ofString "in"):=by decide +kernel
 have le:∀{b:Nat},b<2^n→b<2^8:=fun h=>Nat.lt_of_lt_of_le h (Nat.pow_le_pow_right (by decide) hn)
 cases hM with
 | «let» =>
   obtain ⟨v0,us,rfl,⟨p0,rfl,b0⟩,hu⟩:=hv.cons
   obtain rfl:=hu.empty
   rw [if_pos rfl]
   exact qaT (SqL.of f1) rfl (q _ _ (qau.refl _) b0)
 | hits h =>
   obtain ⟨v0,us,rfl,⟨p0,rfl,b0⟩,hu⟩:=hv.cons
   obtain rfl:=hu.empty
   rw [if_neg n_hits_let,if_pos rfl]
   refine qaT (SqL.of f1) rfl ⟨_,_,rfl,n,p0,_,rfl,hn,rfl,b0,fun H' p' hp' s' a'=>q _ _ s' a'⟩
abbrev qcg:Stmt:=top 82
theorem qf2:qan ["words", "deed", "things", "many", "family"] ["words", "deed", "things"] (qad qcg):=⟨rfl,rfl,rfl,by decide +kernel,rfl,by decide +kernel,by decide +kernel⟩
inductive Ask (ws:List Str):Str→List Th→(Str→Prop)→Prop
 | show {fs:List Nat}:Fml ws.length fs→Ask ws "show" [.fm fs] (fun t=>t=Tx.fT ws fs)
 | says {fs:List Nat} {a:Nat}:Fml ws.length fs→a<2^ws.length→Ask ws "says" [.fm fs,.nu a] (fun t=>t=if Fam.sayP fs a=true then "yes" else "no")
 | look {fs:List Nat} {a:Nat}:Fml ws.length fs→a<2^ws.length→Ask ws "look" [.fm fs,.nu a] (fun t=>t=qel ws fs a)
 | held {fs gs as:List Nat} {w:Str}:Fml ws.length fs→Fml ws.length gs→qoF ws.length fs gs = .str w::nV as→w.length≤8→as.length≤8→(∀a∈as,a<2^ws.length)→Ask ws "held" [.fm fs,.fm gs] (fun t=>t=wsT ws w as)
 | compare {fs as:List Nat} {i j:Nat} {w:Str}:Fml ws.length fs→i<ws.length→j<ws.length→i≠j→qmR ws.length (Fam.sayP fs) i j = .str w::nV as→w.length≤8→as.length≤8→(∀a∈as,a<2^ws.length)→Ask ws "compare" [.fm fs,.nu i,.nu j] (fun t=>t=wsT ws w as)
 | turns {fs:List Nat}:Fml ws.length fs→Ask ws "turns" [.fm fs] (fun t=>t=qsd (Fam.trns ws.length (Fam.sayP fs)))
 | ranks {fs:List Nat}:Fml ws.length fs→Ask ws "ranks" [.fm fs] (RkT ws (Fam.sayP fs))
theorem qmf {m:Nat} (hm:m≤8) (f:Nat→Bool):∀n∈Fam.trns m f,n≤256:=fun n hn=>by
 obtain ⟨k,hk,rfl⟩:=List.mem_map.mp hn
 unfold Fam.trn
 exact Nat.le_trans (List.length_filter_le _ _) (by rw [List.length_range];exact Nat.pow_le_pow_right (n:=2) (by decide) hm)
def qeu (K:W.Frag):Sp:=sp3 fun x y z H Q=>∃(p:Addr) (ws:List Str) (deed:Str) (pt:Addr) (vs:List V) (ths:List Th) (T:Str→Prop),x = .ref p∧H p=some (.lst (sV ws))∧Tx.Wds ws∧y = .str deed∧z = .ref pt∧H pt=some (.lst vs)∧qhB H ths vs∧Ask ws deed ths T∧∀t H',T t→qau H H'→Q (.str t) H'
theorem qis {f:Addr} {fd:FuncData} (F:Fun K "answered" "answered" qcg f fd) (T:Txt mg) {f_12:Addr} {fd_12:FuncData} (C_12:Cal P w K mg base "show_weights" 1 ["words", "told"] qfE f_12 fd_12) {f_14:Addr} {fd_14:FuncData} (C_14:Cal P w K mg base "show_family" 3 ["words", "family"] (qe8 K) f_14 fd_14) {f_17:Addr} {fd_17:FuncData} (C_17:Cal P w K mg base "show_looked" 4 ["words", "told"] (qmH K) f_17 fd_17) {f_01:Addr} {fd_01:FuncData} (C_01:Cal P w K mg base "show_word_and_sets" 3 ["words", "told"] (qgI K) f_01 fd_01) {f_11:Addr} {fd_11:FuncData} (C_11:Cal P w K mg base "show_numbers" 1 ["numbers"] (qff K) f_11 fd_11) {f_26:Addr} {fd_26:FuncData} (C_26:Cal P w K mg base "show_ranks" 2 ["words", "told"] (qom K) f_26 fd_26) {f_27:Addr} {fd_27:FuncData} (C_27:Cal P w K mg base "by_weights" 1 ["many", "family"] qfE f_27 fd_27) {f_61:Addr} {fd_61:FuncData} (C_61:Cal P w K mg base "says" 2 ["family", "one"] (qgg K) f_61 fd_61) {f_52:Addr} {fd_52:FuncData} (C_52:Cal P w K mg base "looked" 3 ["family", "one"] (qgE K) f_52 fd_52) {f_64:Addr} {fd_64:FuncData} (C_64:Cal P w K mg base "held" 4 ["many", "one", "other"] (qkI K) f_64 fd_64) {f_03:Addr} {fd_03:FuncData} (C_03:Cal P w K mg base "compared_unlike" 5 ["many", "family", "x", "y"] (qpu K) f_03 fd_03) {f_58:Addr} {fd_58:FuncData} (C_58:Cal P w K mg base "turns" 4 ["many", "family"] (qg6 K) f_58 fd_58) {f_59:Addr} {fd_59:FuncData} (C_59:Cal P w K mg base "ranks" 5 ["many", "family"] (qi4 K) f_59 fd_59):qaZ P w K mg base CX0 6 f fd ["words", "deed", "things"] (qeu K):=by
 have sc:=qf2
 refine F.ok qf2 (fun vs H Q E h=>by obtain ⟨_,_,_,rfl,_⟩:=h;rfl) (fun cdv A outer s H vs Q E hr h=>?_)
 obtain ⟨x0,x1,x2,rfl,h⟩:=h
 refine ⟨_,(qab (qax (i:=3) sc.nd rfl (Or.inl rfl) (qaB (qaN (K:=K) rfl) (by rfl) T.n_len PySem.boot_len (qaa (pv 0) qac)))
   (qab (qax (i:=4) sc.nd rfl (Or.inl rfl) (qaE (qbF (K:=K) rfl) (pv 2) qaf (fun _ _=>rfl)))
   (qab (qaA (qaj (qay (K:=K) rfl hr.units0) (pv 1) qag (qao _)) (qae (qah (qap C_14 hr (by decide) (by rfl) (qaa (pv 0) (qaa (pv 4) qac))))) qak)
   (qab (qaA (qaj (qay (K:=K) rfl hr.units0) (pv 1) qag (qao _)) (qae (qah (qjb (qbn (qap C_61 hr (by decide) (by rfl) (qaa (pv 4) (qaa (qaE (qbF (K:=K) rfl) (pv 2) qaf (fun _ _=>rfl)) qac)))) qag qag))) qak)
   (qab (qaA (qaj (qay (K:=K) rfl hr.units0) (pv 1) qag (qao _)) (qae (qah (qap C_17 hr (by decide) (by rfl) (qaa (pv 0) (qaa (qap C_52 hr (by decide) (by rfl) (qaa (pv 4) (qaa (qaE (qbF (K:=K) rfl) (pv 2) qaf (fun _ _=>rfl)) qac))) qac))))) qak)
   (qab (qaA (qaj (qay (K:=K) rfl hr.units0) (pv 1) qag (qao _)) (qae (qah (qap C_01 hr (by decide) (by rfl) (qaa (pv 0) (qaa (qap C_64 hr (by decide) (by rfl) (qaa (pv 3) (qaa (pv 4) (qaa (qaE (qbF (K:=K) rfl) (pv 2) qaf (fun _ _=>rfl)) qac)))) qac))))) qak)
   (qab (qaA (qaj (qay (K:=K) rfl hr.units0) (pv 1) qag (qao _)) (qae (qah (qap C_01 hr (by decide) (by rfl) (qaa (pv 0) (qaa (qap C_03 hr (by decide) (by rfl) (qaa (pv 3) (qaa (pv 4) (qaa (qaE (qbF (K:=K) rfl) (pv 2) qaf (fun _ _=>rfl)) (qaa (qaE (qbF (K:=K) rfl) (pv 2) qaf (fun _ _=>rfl)) qac))))) qac))))) qak)
   (qab (qaA (qaj (qay (K:=K) rfl hr.units0) (pv 1) qag (qao _)) (qae (qah (qap C_11 hr (by decide) (by rfl) (qaa (qap C_58 hr (by decide) (by rfl) (qaa (pv 3) (qaa (pv 4) qac))) qac)))) qak)
   (qab (qaA (qaj (qay (K:=K) rfl hr.units0) (pv 1) qag (qao _)) (qae (qah (qap C_26 hr (by decide) (by rfl) (qaa (pv 0) (qaa (qap C_59 hr (by decide) (by rfl) (qaa (pv 3) (qaa (pv 4) qac))) qac))))) qak)
   (qae (qah (qap C_12 hr (by decide) (by rfl) (qaa (pv 0) (qaa (qap C_27 hr (by decide) (by rfl) (qaa (pv 3) (qaa (pv 4) qac))) qac)))))))))))))),?_⟩
 refine rdg (σ':=[some x0,some x1,some x2,none,none]) rfl ?_
 obtain ⟨p,ws,deed,pt,vs,ths,T,rfl,f1,hw,rfl,rfl,f2,hv,hA,q⟩:=h
 have h8:=hw.few
 walk_at "rd"
 refine ⟨_,.inl (SqL.of f1),?_⟩
 rw [qaS]
 cases hA with
 | «show» h =>
   obtain ⟨v0,us,rfl,⟨p0,rfl,b0⟩,hu⟩:=hv.cons
   obtain rfl:=hu.empty
   refine qaT (SqL.of f2) rfl ?_
   rw [if_pos rfl]
   exact ⟨_,_,rfl,p,p0,ws,_,rfl,f1,hw,rfl,b0,h.lt,h.few,fun H1 s1=>q _ _ rfl s1⟩
 | @says fs a h ha =>
   obtain ⟨v0,us,rfl,⟨p0,rfl,b0⟩,hu⟩:=hv.cons
   obtain ⟨v1,us',rfl,e1,hu'⟩:=hu.cons
   obtain rfl:=hu'.empty
   cases e1
   refine qaT (SqL.of f2) rfl ?_
   have n_show:¬(Str.ofString "says" = Str.ofString "show"):=by decide +kernel
   rw [if_neg n_show,if_pos rfl]
   refine qaT (SqL.of f2) rfl ⟨_,_,rfl,p0,fs,a,rfl,SqL.of b0,rfl,⟨_,rfl,?_⟩⟩
   cases e:Fam.sayP fs a with
   | true=>exact qeT (q _ _ (by rw [e];rfl) (qau.refl _))
   | false=>exact qcp (q _ _ (by rw [e];rfl) (qau.refl _))
 | @turns fs h =>
   obtain ⟨v0,us,rfl,⟨p0,rfl,b0⟩,hu⟩:=hv.cons
   obtain rfl:=hu.empty
   refine qaT (SqL.of f2) rfl ?_
   have n_show:¬(Str.ofString "turns" = Str.ofString "show"):=by decide +kernel
   have n_says:¬(Str.ofString "turns" = Str.ofString "says"):=by decide +kernel
   have n_look:¬(Str.ofString "turns" = Str.ofString "look"):=by decide +kernel
   have n_held:¬(Str.ofString "turns" = Str.ofString "held"):=by decide +kernel
   have n_compare:¬(Str.ofString "turns" = Str.ofString "compare"):=by decide +kernel
   rw [if_neg n_show,if_neg n_says,if_neg n_look,if_neg n_held,if_neg n_compare,if_pos rfl]
   refine ⟨_,_,rfl,_,p0,_,rfl,h8,rfl,b0,fun H1 p1 hp1 s1 a1=>⟨_,rfl,p1,_,rfl,a1,?_,qmf h8 _,fun H2 s2=>q _ _ rfl (s1.trans s2)⟩⟩
   unfold Fam.trns
   rw [List.length_map,List.length_range]
   omega
 | @held fs gs as w h1 h2 he l1 l2 l3 =>
   obtain ⟨v0,us,rfl,⟨p0,rfl,b0⟩,hu⟩:=hv.cons
   obtain ⟨v1,us',rfl,⟨p1,rfl,b1⟩,hu'⟩:=hu.cons
   obtain rfl:=hu'.empty
   refine qaT (SqL.of f2) rfl ?_
   have n_show:¬(Str.ofString "held" = Str.ofString "show"):=by decide +kernel
   have n_says:¬(Str.ofString "held" = Str.ofString "says"):=by decide +kernel
   have n_look:¬(Str.ofString "held" = Str.ofString "look"):=by decide +kernel
   rw [if_neg n_show,if_neg n_says,if_neg n_look,if_pos rfl]
   refine qaT (SqL.of f2) rfl ⟨_,_,_,rfl,_,p0,p1,_,_,rfl,h8,rfl,SqL.of b0,rfl,SqL.of b1,fun t1 H1 ht1 s1 a1=>?_⟩
   rw [he] at a1
   exact ⟨_,_,rfl,p,t1,ws,w,as,rfl,s1 _ _ f1,hw,rfl,a1,l1,l2,l3,fun H2 s2=>q _ _ rfl (s1.trans s2)⟩
 | @compare fs as i j w h hi hj hij he l1 l2 l3 =>
   obtain ⟨v0,us,rfl,⟨p0,rfl,b0⟩,hu⟩:=hv.cons
   obtain ⟨v1,us',rfl,e1,hu'⟩:=hu.cons
   obtain ⟨v2,us'',rfl,e2,hu''⟩:=hu'.cons
   obtain rfl:=hu''.empty
   cases e1
   cases e2
   refine qaT (SqL.of f2) rfl ?_
   have n_show:¬(Str.ofString "compare" = Str.ofString "show"):=by decide +kernel
   have n_says:¬(Str.ofString "compare" = Str.ofString "says"):=by decide +kernel
   have n_look:¬(Str.ofString "compare" = Str.ofString "look"):=by decide +kernel
   have n_held:¬(Str.ofString "compare" = Str.ofString "held"):=by decide +kernel
   rw [if_neg n_show,if_neg n_says,if_neg n_look,if_neg n_held,if_pos rfl]
   refine qaT (SqL.of f2) rfl (qaT (SqL.of f2) rfl ⟨_,_,_,_,rfl,_,p0,fs,i,j,rfl,h8,rfl,b0,rfl,hi,rfl,hj,hij,fun t1 H1 ht1 s1 a1=>?_⟩)
   rw [he] at a1
   exact ⟨_,_,rfl,p,t1,ws,w,as,rfl,s1 _ _ f1,hw,rfl,a1,l1,l2,l3,fun H2 s2=>q _ _ rfl (s1.trans s2)⟩
 | @look fs a h ha =>
   obtain ⟨v0,us,rfl,⟨p0,rfl,b0⟩,hu⟩:=hv.cons
   obtain ⟨v1,us',rfl,e1,hu'⟩:=hu.cons
   obtain rfl:=hu'.empty
   cases e1
   refine qaT (SqL.of f2) rfl ?_
   have n_show:¬(Str.ofString "look" = Str.ofString "show"):=by decide +kernel
   have n_says:¬(Str.ofString "look" = Str.ofString "says"):=by decide +kernel
   rw [if_neg n_show,if_neg n_says,if_pos rfl]
   have a8:a<256:=Nat.lt_of_lt_of_le ha (Nat.pow_le_pow_right (n:=2) (by decide) h8)
   have go:∀(t1:Addr) (H1:Hp),qau H H1→Lkd H1 ws.length fs a t1→qmH K [.ref p,.ref t1] H1 (fun x H'=>∃z,x = .str z∧z=qel ws fs a∧qau H H') E0:=fun t1 H1 s1 L=>⟨_,_,rfl,p,t1,ws,fs,a,rfl,s1 _ _ f1,hw,rfl,L,ha,h.lt,fun H2 s2=>⟨_,rfl,rfl,s1.trans s2⟩⟩
   refine qaT (SqL.of f2) rfl ⟨_,_,rfl,p0,fs,a,rfl,b0,rfl,a8,fun b hb t1 H1 _ s1 c1=>?_,fun e0 k hk t1 H1 _ s1 c1=>?_,fun e0 e1 t1 p1 ps H1 _ _ _ s1 c1 c2 c3=>?_⟩
   · exact ⟨_,_,rfl,p,t1,ws,fs,a,rfl,s1 _ _ f1,hw,rfl,.inl ⟨b,hb,h.lt b (List.mem_of_find?_eq_some hb),c1⟩,ha,h.lt,fun H2 s2=>q _ _ rfl (s1.trans s2)⟩
   · exact ⟨_,_,rfl,p,t1,ws,fs,a,rfl,s1 _ _ f1,hw,rfl,.inr (.inl ⟨e0,k,hk,Tx.nms_lt ha (List.mem_of_find?_eq_some hk),c1⟩),ha,h.lt,fun H2 s2=>q _ _ rfl (s1.trans s2)⟩
   · exact ⟨_,_,rfl,p,t1,ws,fs,a,rfl,s1 _ _ f1,hw,rfl,.inr (.inr ⟨e0,e1,p1,ps,c1,c2,c3⟩),ha,h.lt,fun H2 s2=>q _ _ rfl (s1.trans s2)⟩
 | @ranks fs h =>
   obtain ⟨v0,us,rfl,⟨p0,rfl,b0⟩,hu⟩:=hv.cons
   obtain rfl:=hu.empty
   refine qaT (SqL.of f2) rfl ?_
   have n_show:¬(Str.ofString "ranks" = Str.ofString "show"):=by decide +kernel
   have n_says:¬(Str.ofString "ranks" = Str.ofString "says"):=by decide +kernel
   have n_look:¬(Str.ofString "ranks" = Str.ofString "look"):=by decide +kernel
   have n_held:¬(Str.ofString "ranks" = Str.ofString "held"):=by decide +kernel
   have n_compare:¬(Str.ofString "ranks" = Str.ofString "compare"):=by decide +kernel
   have n_turns:¬(Str.ofString "ranks" = Str.ofString "turns"):=by decide +kernel
   rw [if_neg n_show,if_neg n_says,if_neg n_look,if_neg n_held,if_neg n_compare,if_neg n_turns,if_pos rfl]
   exact ⟨_,_,rfl,_,p0,_,rfl,h8,rfl,b0,fun t1 H1 s1 R1=>⟨_,_,rfl,p,t1,ws,_,H,rfl,s1 _ _ f1,hw,rfl,R1,fun z H2 hz s2=>q z _ hz (s1.trans s2)⟩⟩
abbrev qcf:Stmt:=qfp (top 78) 1
theorem qfH:qan ["self", "row", "parts", "deed", "things"] ["self", "row"] (qad qcf):=⟨rfl,rfl,rfl,by decide +kernel,rfl,by decide +kernel,by decide +kernel⟩
theorem qmQ {c:TT} {t u:TS} {D:qgd} {σ:L2.St} {H:Hp}:qk9 (qpN c t qkD) u D σ H↔c σ H fun b H1=>if b=true then t { D with nx:=u D } σ H1 else u D σ H1:=Iff.rfl
theorem qgq {α:Type} {k:Str} {v:α}:∀{l:List (Str×α)},l.lookup k=some v→(k,v)∈l
 | [],h=>by cases h
 | (y,u)::l,h=>by
   rw [List.lookup_cons] at h
   by_cases e:k=y
   · subst e
     simp at h
     subst h
     exact List.mem_cons_self
   · rw [beq_eq_false_iff_ne.mpr e] at h
     exact List.mem_cons_of_mem _ (qgq h)
theorem qjK {d:Str} {ks:List Str} (h:wanted d=some ks):ks.length≤20:=by
 have:∀p∈qiO,p.2.length≤20:=by decide +kernel
 exact this (d,ks) (qgq h)
def qkr (cD:Addr):Sp:=sp2 fun x y H Q=>∃(d pk:Addr) (ws:List Str) (m:List (Str×List Nat)) (z deed:Str) (r ks:List Str) (ths:List Th),x = .ref d∧qfj cD H d pk ws m∧y = .str z∧Prt z deed r ks∧qhz ws m ks r ths ∧
 ((∃(n:Str) (qiF:List Th) (gs:List Nat),ks[0]?=some ("new" : Str)∧ths = .nm n::qiF∧MkR ws.length deed qiF gs∧Fml ws.length gs∧(m.lookup n≠none∨m.length<20)∧∀H',SmB pk H H'→qfj cD H' d pk ws (qhH m n gs)→Q (.str "ok") H') ∨
  ∃(k0:Str) (T:Str→Prop),ks[0]?=some k0∧k0 ≠ "new" ∧ Ask ws deed ths T∧∀t H',T t→qau H H'→Q (.str t) H')
theorem qin {f:Addr} {fd:FuncData} (F:Fun K "say" "Desk.say" qcf f fd) (T:Txt mg) {cD aW:Addr} (Z:Xt P w K mg cD aW) {f_44:Addr} {fd_44:FuncData} (C_44:Cal P w K mg base "parts_of" 1 ["row"] (qe2 K) f_44 fd_44) {f_45:Addr} {fd_45:FuncData} (C_45:Cal P w K mg base "answered" 6 ["words", "deed", "things"] (qeu K) f_45 fd_45) {f_09:Addr} {fd_09:FuncData} (C_09:qfe P w K mg base cD "thing_of" 5 ["self", "kind", "word"] (qix cD) f_09 fd_09) {f_02:Addr} {fd_02:FuncData} (C_02:qfe P w K mg base cD "look_for_room" 1 ["self", "name"] (qkp cD) f_02 fd_02) {f_65:Addr} {fd_65:FuncData} (C_65:Cal P w K mg base "made" 4 ["many", "deed", "things"] (qlD K) f_65 fd_65):qaZ P w K mg base CX0 7 f fd ["self", "row"] (qkr cD):=by
 have sc:=qfH
 refine F.ok qfH (fun vs H Q E h=>by obtain ⟨_,_,rfl,_⟩:=h;rfl) (fun cdv A outer s H vs Q E hr h=>?_)
 obtain ⟨x0,x1,rfl,h⟩:=h
 refine ⟨_,(qab (qax (i:=2) sc.nd rfl (Or.inl rfl) (qap C_44 hr (by decide) (by rfl) (qaa (pv 1) qac)))
   (qab (qax (i:=3) sc.nd rfl (Or.inl rfl) (qaE (qbF (K:=K) rfl) (pv 2) qaf (fun _ _=>rfl)))
   (qab (qed (i:=4) sc.nd rfl rfl (by rfl) (N:=["kind", "word", "self"]) (nt:=2) (caps:=[0]) qaF rfl (qoG (K:=K) rfl (by rfl) T.n_zip (qaa (qiC (P:=P) (w:=w) (K:=K) rfl rfl rfl (qer (v := .ref aW) (by rfl) Z.gW rfl) (pv 3) (fun _ _=>rfl)) (qaa (qbH (qnP (K:=K) rfl) (pv 2) (qb2 qaf) qcx) qac))) (fun _ _ _ _ _=>(qjn (n:=2) rfl (qbV (qas (i:=0) (show List.Nodup (α:=Str) ["kind", "word", "self"] from by decide +kernel) rfl (Or.inl rfl)) (qbV (qas (i:=1) (show List.Nodup (α:=Str) ["kind", "word", "self"] from by decide +kernel) rfl (Or.inl rfl)) qe7)))) qlY (fun _ _ _ _ _=>qaY) (fun _ _ _ _ _=>(qaK (pv 2) Z.cl C_09 hr (by decide) (qaa (pv 0) (qaa (pv 1) qac)))))
   (qab (qaA (qaj (qay (K:=K) rfl hr.units0) (qaE (qbF (K:=K) rfl) (qiC (P:=P) (w:=w) (K:=K) rfl rfl rfl (qer (v := .ref aW) (by rfl) Z.gW rfl) (pv 3) (fun _ _=>rfl)) qaf (fun _ _=>rfl)) qag (qao _)) (qab (qdb (qaK (pv 0) Z.cl C_02 hr (by decide) (qaa (qaE (qbF (K:=K) rfl) (pv 4) qaf (fun _ _=>rfl)) qac)))
   (qab (qpd (qni hr) (qdv (pv 0) rfl) (qaE (qbF (K:=K) rfl) (pv 4) qaf (fun _ _=>rfl)) (qap C_65 hr (by decide) (by rfl) (qaa (qaB (qaN (K:=K) rfl) (by rfl) T.n_len PySem.boot_len (qaa (qdv (pv 0) rfl) qac)) (qaa (pv 3) (qaa (qbH (qnP (K:=K) rfl) (pv 4) (qb2 qaf) qcx) qac)))) rfl)
   (qae (qah qag)))) qak)
   (qae (qah (qap C_45 hr (by decide) (by rfl) (qaa (qdv (pv 0) rfl) (qaa (pv 3) (qaa (pv 4) qac)))))))))),?_⟩
 refine rdg (σ':=[some x0,some x1,none,none,none]) rfl ?_
 obtain ⟨d,pk,ws,m,z,deed,r,ks,ths,rfl,D,rfl,hP,hT,h⟩:=h
 obtain ⟨dx,pw,o1,o2⟩:=D.ob
 obtain ⟨kvs,kd1,kd2⟩:=Z.wn.kv
 obtain ⟨tw,vt,ht⟩:=kd2 deed ks hP.kd
 have lT:=hT.1
 have lN:=hP.ln
 have l20:ks.length≤20:=qjK hP.kd
 walk_at "rd"
 refine ⟨_,rfl,z,deed,r,ks,rfl,hP,fun p1 H1 hp1 s1 a1=>?_⟩
 refine qaT (SqL.of a1) (qc3 (i:=0) rfl) ⟨kvs,Sum.inr deed,rfl,kd1,_,vt,p1,_,rfl,SqL.of a1,fun p2 hp2=>?_⟩
 rw [show (1:Int)=((1:Nat):Int) from rfl,qde,show (sV (deed::r)).drop 1=sV r from rfl]
 generalize g2:upd H1 p2 _=G2
 have a2:=qaw g2
 have s2:=s1.trans (qar g2 hp2)
 refine ⟨tw,p2,⟨rfl,rfl⟩,_,ht G2,_,SqL.of a2,qqb (xs:=sV ks) (ys:=sV r) (by rw [qaS,qaS,lN]) (fun i zs H3=>qau G2 H3∧qhB H3 (ths.take i) zs) ⟨qau.refl _,qhB.nil⟩ (Nat.le_trans (by rw [qaS];omega) (show 100000≤sizeLine by decide)) (fun i zs H3 hi h=>⟨ht _,SqL.of (h.1 _ _ a2),by rw [←h.2.1,List.length_take];omega⟩) (fun i x y zs H3 t hx hy h hn3 R R' r1 r2=>?_) fun zs H3 h p3 hp3=>?_⟩
 · obtain ⟨s3,hv⟩:=h
   rw [List.getElem?_map] at hx hy
   cases ek:ks[i]? with
   | none=>rw [ek] at hx;cases hx
   | some k =>
   cases ew:r[i]? with
   | none=>rw [ew] at hy;cases hy
   | some w =>
   rw [ek] at hx
   rw [ew] at hy
   cases hx
   cases hy
   have hi:i<ths.length:=by
     have:=(List.getElem?_eq_some_iff.mp ek).1
     omega
   have et:ths[i]?=some ths[i]:=List.getElem?_eq_getElem hi
   have hth:=hT.2 i k w _ ek ew et
   have s4:=qau.new (o := .tup [.str k,.str w]) hn3
   have D4:=((D.same s2).same s3).same s4
   obtain ⟨dx4,pw4,o4,_⟩:=D4.ob
   (try walk_at "rd")
   refine ⟨_,SqT.of qai,rfl,_,_,rfl,_,_,rfl,rfl,dx4,_,o4,qaX _ _ (by decide +kernel) (by decide +kernel),_,_,_,rfl,d,pk,ws,m,k,w,_,rfl,D4,rfl,rfl,hth,fun v H5 s5 hv5=>r1 v H5 ⟨(s3.trans s4).trans s5,?_⟩⟩
   rw [List.take_add_one,et]
   exact ((hv.same s4).same s5).snoc hv5
 obtain ⟨s3,hv⟩:=h
 rw [qaS,←lT,List.take_length] at hv
 generalize g3:upd H3 p3 _=G3
 have a3:=qaw g3
 have t3:=qar g3 hp3
 have s3:=(s2.trans s3).trans t3
 have hv:=hv.same t3
 have D3:=D.same s3
 clear g3 a1 a2 s1 g2 s2
 refine qmQ.mpr ?_
 walk_at "rd"
 rcases h with ⟨n,qiF,gs,k0,rfl,hM,hF,hm,q⟩ | ⟨k0,T,e0,k0,hA,q⟩
 · refine ⟨kvs,Sum.inr deed,rfl,kd1,_,vt,qcy (ht _) (qc3 (i:=0) k0) ⟨_,.inl ⟨rfl,rfl⟩,⟨true,congrArg V.bl (decide_eq_true rfl),qeT ?_⟩⟩⟩
   obtain ⟨v0,us,rfl,rfl,hu⟩:=hv.cons
   obtain ⟨dx3,pw3,o3,w3⟩:=D3.ob
   refine ⟨dx3,_,o3,qaX _ _ (by decide +kernel) (by decide +kernel),qaT (SqL.of a3) (qaL (j:=0) rfl) ⟨_,_,rfl,d,pk,ws,m,n,rfl,D3,rfl,hm,cD,dx3,_,o3,Z.cl,Z.nw,_,qia _ _,pw3,rfl,_,.inl (SqL.of w3),p3,_,rfl,SqL.of a3,fun p4 hp4=>?_⟩⟩
   rw [qde,show (V.str n::us).drop 1=us from rfl,qaS]
   generalize g4:upd G3 p4 _=G4
   have a4:=qaw g4
   have t4:=qar g4 hp4
   refine ⟨_,_,_,rfl,ws.length,deed,p4,us,qiF,gs,rfl,D.wd.few,rfl,rfl,a4,hu.same t4,hM,fun p5 H5 s5 a5=>?_⟩
   have D5:=(D3.same t4).same s5
   obtain ⟨dx5,pw5,o5,w5⟩:=D5.ob
   obtain ⟨kv5,c5,k5⟩:=D5.dc
   refine ⟨cD,dx5,_,o5,Z.cl,Z.nk,_,qik _ _,qaT (SqL.of (s5 _ _ (t4 _ _ a3))) (qaL (j:=0) rfl) ⟨pk,rfl,_,qpy.k (k:=Sum.inr n) c5 (qcL (by have:=D5.ms;have:=k5.1;omega)),q _ (fun b o e hb=>by rw [qaz hb];exact s5 _ _ (t4 _ _ (s3 _ _ e))) ?_⟩⟩
   refine ⟨⟨dx5,pw5,by rw [qaz fun e=>by rw [e,c5] at o5;cases o5];exact o5,by rw [qaz fun e=>by rw [e,c5] at w5;cases w5];exact w5⟩,⟨_,qai,(k5.put a5).same fun p fs h=>by rw [qaz fun e=>by rw [e,c5] at h;cases h];exact h⟩,D.wd,fun x fs h=>?_,?_⟩
   · rw [qbq] at h
     by_cases e:x=n
     · rw [if_pos e] at h
       cases h
       exact hF
     · rw [if_neg e] at h
       exact D.fm x fs h
   · rw [qbT]
     have:=D.ms
     cases e:m.lookup n with
     | some gs=>simpa using this
     | none =>
       rcases hm with h | h
       · exact absurd e h
       · simp
         omega
 · refine ⟨kvs,Sum.inr deed,rfl,kd1,_,vt,qcy (ht _) (qc3 (i:=0) e0) ⟨_,.inl ⟨rfl,rfl⟩,⟨false,congrArg V.bl (decide_eq_false fun e=>k0 (V.str.inj e)),qcp ?_⟩⟩⟩
   obtain ⟨dx3,pw3,o3,w3⟩:=D3.ob
   exact ⟨cD,dx3,_,o3,Z.cl,Z.nw,_,qia _ _,_,_,_,rfl,pw3,ws,deed,p3,zs,ths,T,rfl,w3,D.wd,rfl,rfl,a3,hv,hA,fun t H4 ht s4=>q t _ ht (s3.trans s4)⟩
abbrev qbl:Stmt:=top 95
theorem qdA:qan ["_law_desk", "_law_words_here", "_law_name", "_law_family_here", "_law_one", "_law_parts", "_law_met", "_law_part", "_law_word", "_law_text_here", "_law_other"] ["_law_desk", "_law_words_here", "_law_name", "_law_family_here", "_law_one"] (qad qbl):=⟨rfl,rfl,rfl,by decide +kernel,rfl,by decide +kernel,by decide +kernel⟩
theorem qcn (a b c:Str):a++b++c=a++(b++c):=congrArg Str.mk Array.append_assoc
theorem qip:∀(ds:List Str) (w:Str),pre ds w=pre ds Str.empty++w
 | [],w=>by
   show w=(⟨#[]++w.cps⟩:Str)
   rw [Array.empty_append]
 | d::ds,w=>by
   show d ++ " " ++ pre ds w=(d ++ " " ++ pre ds Str.empty)++w
   rw [qip ds w,qcn,qcn,qcn]
theorem qd0 {z d w:Str} {ds ks:List Str} (hz:z=pre (d::ds) Str.empty) (h1:wanted d=some ks) (hd:¬d = "let") (hf:∀x∈d::ds,32∉Tx.sg x) (hw:Tx.Wd w) (hl:ds.length+1=ks.length) (hs:z.length≤100):Prt (z++w) d (ds++[w]) ks:=by
 have e:z++w=pre (d::ds) w:=by rw [qip,hz]
 rw [e]
 refine qfq h1 hd hf (hw.free (by decide)) hl ?_
 rw [←e,Str.length_append]
 have:=hw.2.1
 omega
theorem qmr {b c k:Nat} (hk:b.testBit k=true) (h1:Fam.mt b c) (h2:¬Fam.mt (Fam.less b k) c):b&&&c=2^k:=by
 have key:∀j,b.testBit j=true→c.testBit j=true→j=k:=fun j hb hc=>by
   apply Classical.byContradiction
   intro hne
   exact h2 (Fam.mt_iff.mpr ⟨j,by rw [Fam.less_bit hk,hb];simpa using hne,hc⟩)
 obtain ⟨j,j1,j2⟩:=Fam.mt_iff.mp h1
 have:=key j j1 j2
 subst this
 refine Nat.eq_of_testBit_eq fun i=>?_
 rw [Nat.testBit_and,Nat.testBit_two_pow]
 by_cases c1:j=i
 · subst c1
   simp [j1,j2]
 · cases hb:b.testBit i<;>cases hc:c.testBit i<;>simp [c1]
   exact c1 (key i hb hc).symm
theorem qjN {m:Nat} {A:List Nat} {b:Nat} (bm:b∈Fam.hits m A):qcD A b=none∧qhW A b=none:=by
 have b1:=(Fam.mem_hits.mp bm).1
 have bh:=(Fam.hit_less b1).mp bm
 refine ⟨(qgK A b).mpr bh.1,List.find?_eq_none.mpr fun k hk=>?_⟩
 have kb:=(Fam.mem_nms.mp hk).2
 have:=bh.2 k kb
 have hn:¬∀c∈A,Fam.mt (Fam.less b k) c:=fun z=>by rw [Fam.hitP_iff.mpr z] at this;cases this
 have ⟨c,hc,hmc⟩:∃c∈A,¬Fam.mt (Fam.less b k) c:=by
   apply Classical.byContradiction
   intro z
   exact hn fun c hc=>Classical.byContradiction fun y=>z ⟨c,hc,y⟩
 have e:=qmr kb (Fam.hitP_iff.mp bh.1 c hc) hmc
 have:(qcw A b k).isSome=true:=List.find?_isSome.mpr ⟨c,hc,decide_eq_true e⟩
 cases hq:qcw A b k with
 | none=>rw [hq] at this;cases this
 | some o=>simp
theorem qoO (xs:List Str):∃r,_root_.PySem.Txt.split (_root_.PySem.Txt.join " " (("least" : Str)::xs)) " " = ("least" : Str)::r:=by
 have f:32∉Tx.sg ("least" : Str):=by decide +kernel
 cases xs with
 | nil =>
   rw [Tx.lit_space]
   exact ⟨[],Tx.split_join (ws:=[("least" : Str)]) (by simp) fun w hw=>by rw [List.mem_singleton.mp hw];exact f⟩
 | cons x xs =>
   rw [Tx.lit_space]
   refine ⟨_,Tx.split_cons (r:=_root_.PySem.Txt.join ⟨#[32]⟩ (x::xs)) ?_ f⟩
   have:=Tx.join_app (c:=32) (xs:=[("least" : Str)]) (ys:=x::xs) (by simp) (by simp)
   rw [show ("least" : Str)::x::xs=[("least" : Str)]++(x::xs) from rfl,←this,Tx.join_one,qdt,qdt,List.append_assoc]
   rfl
theorem qnO {ws:List Str} {fs:List Nat} {a k:Nat} (hw:Tx.Wds ws) (hb:∀b∈fs,b<2^ws.length) (hk:k<ws.length):(lkT ws fs a k).length≤81:=by
 have g1:(ws.getD k Str.empty).length≤8:=by
   rw [List.getD_eq_getElem?_getD,List.getElem?_eq_getElem hk]
   exact (hw.wd _ (List.getElem_mem hk)).2.1
 have g2:(Str.ofString ":").length=1:=by decide +kernel
 have g3:((qcw fs a k).getD 0)<2^ws.length:=by
   cases e:qcw fs a k with
   | none=>exact Nat.two_pow_pos _
   | some o=>exact hb o (List.mem_of_find?_eq_some e)
 have g4:=Tx.sT_len hw g3
 unfold lkT
 rw [Str.length_append,Str.length_append]
 omega
theorem qhu {ws:List Str} {fs:List Nat} {a:Nat} (hw:Tx.Wds ws) (hb:∀b∈fs,b<2^ws.length) (ha:a<2^ws.length):(_root_.PySem.Txt.join " " (("least" : Str)::(Fam.nms 8 a).map (lkT ws fs a))).length≤100000:=by
 rw [←Tx.len_sg,Tx.lit_space,Tx.txt_join]
 have l8:(Fam.nms 8 a).length≤8:=Nat.le_trans (List.length_filter_le _ _) (by simp)
 refine Nat.le_trans (Tx.jn_len (M:=81) fun x hx=>?_) (show _*82≤_ by rw [List.length_map,List.length_cons,List.length_map];omega)
 obtain ⟨w,hw',rfl⟩:=List.mem_map.mp hx
 rw [Tx.len_sg]
 rcases List.mem_cons.mp hw' with rfl | h
 · decide +kernel
 · obtain ⟨k,hk,rfl⟩:=List.mem_map.mp h
   exact qnO hw hb (Tx.nms_lt ha hk)
theorem qpW {m:Nat} {L:List Nat} (hm:m≤8) (hr:L.Pairwise (· < ·)) (hb:∀b∈L,b<2^m) (ha:Fam.Anti L):L.length≤70:=Fam.sperner hr (fun b h=>Nat.lt_of_lt_of_le (hb b h) (Nat.pow_le_pow_right (n:=2) (by decide) hm)) ha
theorem qdQ {ws:List Str} (h8:ws.length≤8) (A:List Nat):Fml ws.length (Fam.hits ws.length A):=⟨Fam.hits_rise _ _,fun _ h=>Fam.hits_lt _ h,qpW h8 (Fam.hits_rise _ _) Fam.hits_lt Fam.hits_anti⟩
theorem qr7 {z d n x:Str} (hz:z=d ++ " "):z++n++Str.ofString " " ++ x=pre [d,n] x:=by
 rw [hz]
 show _=d ++ " " ++ (n ++ " " ++ x)
 simp only [qcn]
theorem qrZ {z d n x:Str} {ks:List Str} (hz:z=d ++ " ") (h1:wanted d=some ks) (hd:¬d = "let") (hf:32∉Tx.sg d) (hn:Tx.Wd n) (hx:32∉Tx.sg x) (hl:ks.length=2) (hs:z.length≤100) (lx:x.length≤1000):Prt (z++n++Str.ofString " " ++ x) d [n,x] ks:=by
 have e:=qr7 (n:=n) (x:=x) hz
 rw [e]
 refine qfq (ds:=[n]) h1 hd (fun y hy=>?_) hx (by rw [hl];rfl) ?_
 · rcases List.mem_cons.mp hy with rfl | hy
   · exact hf
   · rw [List.mem_singleton.mp hy]
     exact hn.free (by decide)
 · rw [←e,Str.length_append,Str.length_append,Str.length_append,show (Str.ofString " ").length=1 by decide +kernel]
   have:=hn.2.1
   omega
theorem qdg {d:Str} (f:32∉Tx.sg d) (xs:List Str):∃r,_root_.PySem.Txt.split (_root_.PySem.Txt.join " " (d::xs)) " " = d::r:=by
 cases xs with
 | nil =>
   rw [Tx.lit_space]
   exact ⟨[],Tx.split_join (ws:=[d]) (by simp) fun w hw=>by rw [List.mem_singleton.mp hw];exact f⟩
 | cons x xs =>
   rw [Tx.lit_space]
   refine ⟨_,Tx.split_cons (r:=_root_.PySem.Txt.join ⟨#[32]⟩ (x::xs)) ?_ f⟩
   have:=Tx.join_app (c:=32) (xs:=[d]) (ys:=x::xs) (by simp) (by simp)
   rw [show d::x::xs=[d]++(x::xs) from rfl,←this,Tx.join_one,qdt,qdt,List.append_assoc]
   rfl
theorem qiS {w:Str} (h:Tx.Wd w) (c:Nat) (hc:c<97):c∉Tx.sg w:=fun hm=>by
 have:=h.2.2 c hm
 omega
theorem qrs {ws:List Str} {a:Nat} (hw:Tx.Wds ws) (ha:a<2^ws.length):58∉Tx.sg (Tx.sT ws a):=by
 unfold Tx.sT
 split
 · decide +kernel
 · intro hm
   rw [Tx.lit_plus,Tx.txt_join] at hm
   rcases Tx.jn_mem hm with h | ⟨x,hx,h⟩
   · exact absurd h (by decide)
   · obtain ⟨w,hw',rfl⟩:=List.mem_map.mp hx
     exact qiS (hw.wd w (Tx.wds_mem hw ha hw')) 58 (by decide) h
theorem qoI {ws:List Str} {fs:List Nat} {a k:Nat} (hw:Tx.Wds ws) (hb:∀b∈fs,b<2^ws.length) (hk:k<ws.length):32∉Tx.sg (lkT ws fs a k):=by
 have g1:Tx.Wd (ws.getD k Str.empty):=by
   rw [List.getD_eq_getElem?_getD,List.getElem?_eq_getElem hk]
   exact hw.wd _ (List.getElem_mem hk)
 have g3:((qcw fs a k).getD 0)<2^ws.length:=by
   cases e:qcw fs a k with
   | none=>exact Nat.two_pow_pos _
   | some o=>exact hb o (List.mem_of_find?_eq_some e)
 unfold lkT
 rw [qdt,qdt]
 intro hm
 rcases List.mem_append.mp hm with h | h
 · rcases List.mem_append.mp h with h | h
   · exact qiS g1 32 (by decide) h
   · exact absurd h (by decide +kernel)
 · exact Tx.sT_free hw g3 h
theorem ql6 {ws:List Str} {fs:List Nat} {a k:Nat} (hw:Tx.Wds ws) (hb:∀b∈fs,b<2^ws.length) (hk:k<ws.length):_root_.PySem.Txt.split (lkT ws fs a k) (Str.ofString ":")=[ws.getD k Str.empty,Tx.sT ws ((qcw fs a k).getD 0)]:=by
 have g1:Tx.Wd (ws.getD k Str.empty):=by
   rw [List.getD_eq_getElem?_getD,List.getElem?_eq_getElem hk]
   exact hw.wd _ (List.getElem_mem hk)
 have g3:((qcw fs a k).getD 0)<2^ws.length:=by
   cases e:qcw fs a k with
   | none=>exact Nat.two_pow_pos _
   | some o=>exact hb o (List.mem_of_find?_eq_some e)
 have e58:Str.ofString ":" = ⟨#[58]⟩:=by decide +kernel
 rw [e58,Tx.split_cons (a:=ws.getD k Str.empty) (r:=Tx.sT ws ((qcw fs a k).getD 0)) ?_ (qiS g1 58 (by decide)),Tx.split_nofree (qrs hw g3)]
 unfold lkT
 rw [qdt,qdt,e58,List.append_assoc]
 rfl
def sp5 (R:V→V→V→V→V→Hp→VK→Prop):Sp:=fun vs H Q _=>∃a b c d e,vs=[a,b,c,d,e]∧R a b c d e H Q
def qfM (cD:Addr):Sp:=sp5 fun x y z u v H Q=>∃(d pk p pf:Addr) (ws:List Str) (m:List (Str×List Nat)) (n:Str) (A:List Nat) (a:Nat),x = .ref d∧y = .ref p∧z = .str n∧u = .ref pf∧v = .int (a:Nat)∧qfj cD H d pk ws m∧H p=some (.lst (sV ws))∧Tx.Wd n∧m.lookup n=some A∧H pf=some (.lst (nV A))∧a∈Fam.hits ws.length A∧∀H',qau H H'→Q (.bl true) H'
theorem qgc {f:Addr} {fd:FuncData} (F:Fun K "_law_looked" "_law_looked" qbl f fd) (T:Txt mg) {cD aW:Addr} (Z:Xt P w K mg cD aW) {f_36:Addr} {fd_36:FuncData} (C_36:Cal P w K mg base "_law_set" 1 ["_law_words_here", "_law_text_here"] (qjk K) f_36 fd_36) {f_46:Addr} {fd_46:FuncData} (C_46:qfe P w K mg base cD "say" 7 ["self", "row"] (qkr cD) f_46 fd_46) {f_06:Addr} {fd_06:FuncData} (C_06:Cal P w K mg base "_law_set_text" 1 ["_law_words_here", "_law_one"] (qf3 K) f_06 fd_06):qaZ P w K mg base CX0 8 f fd ["_law_desk", "_law_words_here", "_law_name", "_law_family_here", "_law_one"] (qfM cD):=by
 have sc:=qdA
 refine F.ok qdA (fun vs H Q E h=>by obtain ⟨_,_,_,_,_,rfl,_⟩:=h;rfl) (fun cdv A outer s H vs Q E hr h=>?_)
 obtain ⟨x0,x1,x2,x3,x4,rfl,h⟩:=h
 refine ⟨_,(qab (qax (i:=5) sc.nd rfl (Or.inl rfl) (qbp PySem.F.plainAttrs_str PySem.F.slot_str_split PySem.F.type_str_split qbW (qaK (pv 0) Z.cl C_46 hr (by decide) (qaa (qaq qat (qaq qat (qaq qat qag (pv 2)) qag) (qap C_06 hr (by decide) (by rfl) (qaa (pv 1) (qaa (pv 4) qac)))) qac)) (qaa qag qac)))
   (qab (qaA (qaj (qbC (K:=K) rfl hr.units0) (qaE (qbF (K:=K) rfl) (pv 5) qaf (fun _ _=>rfl)) qag (qao _)) (qae (qah qcH)) qak)
   (qab (qax (i:=6) sc.nd rfl (Or.inl rfl) (qa7 qac))
   (qab (qbo PassesOwn.never rfl (qaM (qbH (qnP (K:=K) rfl) (pv 5) (qb2 qaf) qcx)) (qas (i:=7) sc.nd rfl (Or.inl rfl)) (qab (qnw (qbp PySem.F.plainAttrs_str PySem.F.slot_str_split PySem.F.type_str_split qbW (pv 7) (qaa qag qac)) (qpK (n:=2) rfl (qbV (qas (i:=8) sc.nd rfl (Or.inl rfl)) (qbV (qas (i:=9) sc.nd rfl (Or.inl rfl)) qe7))))
   (qab (qax (i:=10) sc.nd rfl (Or.inl rfl) (qap C_36 hr (by decide) (by rfl) (qaa (pv 1) (qaa (pv 9) qac))))
   (qab (qaA (PW.pt (qhk (qaj (qfi (K:=K) rfl) (pv 10) (pv 3) (by with_unfolding_all rfl)) (qdT (qaj (qbC (K:=K) rfl hr.units0) (qaq qcz (pv 4) (pv 10)) (qaq qbx qaf (qjx (K:=K) rfl PySem.F.plainAttrs_list PySem.F.slot_list_index PySem.F.type_list_index qd8 (pv 1) (qaa (pv 8) qac))) (qao _))))) (qae (qah qcH)) qak)
   (qae (qdb (qbp PySem.F.plainAttrs_list PySem.F.slot_list_append PySem.F.type_list_append qcj (pv 6) (qaa (qjx (K:=K) rfl PySem.F.plainAttrs_list PySem.F.slot_list_index PySem.F.type_list_index qd8 (pv 1) (qaa (pv 8) qac)) qac))))))))
   (qae (qah (qb1 (qay (K:=K) rfl hr.units0) (pv 6) (qaQ (N:=["_law_k", "_law_one"]) (nt:=1) (caps:=[4]) qaF rfl (qaO (by rfl) T.n_range (qaa (qaB (qaN (K:=K) rfl) (by rfl) T.n_len PySem.boot_len (qaa (pv 1) qac)) qac)) (fun _ _ _ _ _=>(qas (i:=0) (show List.Nodup (α:=Str) ["_law_k", "_law_one"] from by decide +kernel) rfl (Or.inl rfl))) qaJ (fun _ _ _ _ _=>(qcv (qaj (qay (K:=K) rfl hr.units0) (qaq qcz (qaq qkq (pv 1) (pv 0)) qaf) qaf (qao _)))) (fun _ _ _ _ _=>(pv 0))) (qao _)))))))),?_⟩
 refine rdg (σ':=[some x0,some x1,some x2,some x3,some x4,none,none,none,none,none,none]) rfl ?_
 obtain ⟨d,pk,p,pf,ws,m,n,A,a,rfl,rfl,rfl,rfl,rfl,D,f1,hn,hA,fA,ha,q⟩:=h
 walk_at "rd"
 have hw:=D.wd
 have h8:=hw.few
 have hA':=D.fm _ _ hA
 have alt:a<2^ws.length:=Fam.hits_lt a ha
 have hlk:=qjN ha
 obtain ⟨dx,pw,o1,_⟩:=D.ob
 have ln:=hn.2.1
 have l5:(Str.ofString "look ").length=5:=by decide +kernel
 have l1:(Str.ofString " ").length=1:=by decide +kernel
 have zz:100000≤sizeLine:=by decide
 have lsT:=Tx.sT_len hw alt
 refine ⟨dx,_,o1,qaX _ _ (by decide +kernel) (by decide +kernel),by omega,by rw [Str.length_append];omega,_,_,rfl,p,ws,a,rfl,f1,hw,rfl,alt,fun H1 s1=>⟨_,rfl,by rw [Str.length_append,Str.length_append];omega,_,_,rfl,d,pk,ws,m,_, "look",[n,Tx.sT ws a],["family", "set"],[.fm A,.nu a],rfl,D.same s1,rfl,qrZ (by decide +kernel) (by decide +kernel) (by decide +kernel) (by decide +kernel) hn (Tx.sT_free hw alt) rfl (by decide +kernel) (by omega),qhz.cons (.fam hA) (qcU (.set alt)),.inr ⟨"family",_,rfl,by decide +kernel,.look hA' alt,fun t H2 ht s2=>?_⟩⟩⟩
 have et:qel ws A a=_root_.PySem.Txt.join " " (("least" : Str)::(Fam.nms 8 a).map (lkT ws A a)):=by
   unfold qel
   rw [hlk.1]
   dsimp only
   rw [hlk.2]
 rw [et] at ht
 subst ht
 have gk:∀k∈Fam.nms 8 a,k<ws.length:=fun k hk=>Tx.nms_lt alt hk
 have l8:(Fam.nms 8 a).length≤8:=Nat.le_trans (List.length_filter_le _ _) (by simp)
 have esp:_root_.PySem.Txt.split (_root_.PySem.Txt.join " " (("least" : Str)::(Fam.nms 8 a).map (lkT ws A a))) (Str.ofString " ")=("least" : Str)::(Fam.nms 8 a).map (lkT ws A a):=by
   rw [show Str.ofString " " = ⟨#[32]⟩ from Tx.lit_space]
   refine Tx.split_join (by simp) fun w hw'=>?_
   rcases List.mem_cons.mp hw' with rfl | h
   · decide +kernel
   · obtain ⟨k,hk,rfl⟩:=List.mem_map.mp h
     exact qoI hw hA'.lt (gk k hk)
 refine ⟨rfl,_,_,rfl,rfl,by rw [Tx.lit_space];rfl,qhu hw hA'.lt alt,fun q1 hq1=>?_⟩
 rw [esp]
 generalize g1:upd H2 q1 _=G1
 have a1:=qaw g1
 have w1:=(s1.trans s2).trans (qar g1 hq1)
 refine qaT (SqL.of a1) (qc3 (i:=0) rfl) ⟨_,.inl ⟨rfl,rfl⟩,false,congrArg V.bl (by rw [decide_eq_true rfl];rfl),qcp ⟨qaC (by simp),fun q2 hq2=>?_⟩⟩
 generalize g2:upd G1 q2 _=G2
 have a2:=qaw g2
 have w2:=w1.trans (qar g2 hq2)
 have hq2':H q2=none:=qaD w1 hq2
 refine ⟨q1,_,rfl,SqL.of (qar g2 hq2 _ _ a1),fun q3 hq3=>?_⟩
 rw [show some (1:Int)=some ((1:Nat):Int) from rfl,qde,show (sV (("least" : Str)::(Fam.nms 8 a).map (lkT ws A a))).drop 1=sV ((Fam.nms 8 a).map (lkT ws A a)) from rfl]
 generalize g3:upd G2 q3 _=G3
 have a3:=qaw g3
 have w3:=w2.trans (qar g3 hq3)
 have n23:q3≠q2:=fun e=>by rw [e,a2] at hq3;cases hq3
 have a2:=qar g3 hq3 _ _ a2
 refine ⟨q3,rfl,⟨_,SqL.of a3⟩,?_⟩
 refine qh8 (xs:=sV ((Fam.nms 8 a).map (lkT ws A a))) (fun i σ H'=>∃v7 v8 v9 v10:Option V,σ=[some (.ref d),some (.ref p),some (.str n),some (.ref pf),some (.int (a:Nat)),some (.ref q1),some (.ref q2),v7,v8,v9,v10]∧qau H H'∧H' q3=some (.lst (sV ((Fam.nms 8 a).map (lkT ws A a))))∧H' q2=some (.lst (nV ((Fam.nms 8 a).take i)))) ⟨none,none,none,none,rfl,w3,a3,a2⟩ (fun i σ H' _ ⟨_,_,_,_,_,_,e,_⟩=>SqL.of e) ?_ ?_
 · rintro i x σ H4 hx ⟨v7,v8,v9,v10,rfl,s4,b3,b2⟩ N hN
   rw [List.getElem?_map,List.getElem?_map] at hx
   cases ek:(Fam.nms 8 a)[i]? with
   | none=>rw [ek] at hx;cases hx
   | some k =>
     rw [ek] at hx
     cases hx
     have km:=List.mem_of_getElem? ek
     have kl:=gk k km
     obtain ⟨o,eo⟩:∃o,qcw A a k=some o:=by
       cases e:qcw A a k with
       | some o=>exact ⟨o,rfl⟩
       | none =>
         have:=List.find?_eq_none.mp hlk.2 k km
         rw [e] at this
         exact absurd rfl this
     have om:o∈A:=List.mem_of_find?_eq_some eo
     have o9:=List.find?_some (show A.find? (fun b=>decide (a&&&b=2^k))=some o from eo)
     have oe:a&&&o=2^k:=by simpa using o9
     have ls:=ql6 hw hA'.lt (a:=a) kl
     have ll:=qnO hw hA'.lt (a:=a) kl
     rw [eo] at ls
     have gw:ws[k]?=some (ws.getD k Str.empty):=by rw [List.getD_eq_getElem?_getD,List.getElem?_eq_getElem kl];rfl
     have wm:=List.mem_of_getElem? gw
     have ix:ws.idxOf (ws.getD k Str.empty)=k:=by rw [List.getD_eq_getElem?_getD,List.getElem?_eq_getElem kl];exact hw.nd.idxOf_getElem k kl
     (try walk_at "rd")
     refine ⟨rfl,_,_,rfl,rfl,by decide +kernel,by omega,fun q5 hq5=>?_⟩
     rw [ls]
     generalize g5:upd H4 q5 _=G5
     have a5:=qaw g5
     have w5:=s4.trans (qar g5 hq5)
     have b3:=qar g5 hq5 _ _ b3
     have b2:=qar g5 hq5 _ _ b2
     (try walk_at "rd")
     refine ⟨_,SqL.of a5,rfl,_,_,rfl,_,_,rfl,rfl,_,_,rfl,p,ws,o,rfl,w5 _ _ f1,hw,rfl,hA'.lt o om,fun H6 s6=>?_⟩
     have w6:=w5.trans s6
     have b3:=s6 _ _ b3
     have b2:=s6 _ _ b2
     refine ⟨_,.inl (SqL.of (w6 _ _ fA)),rfl,qc4 _,false,by rw [qpL,decide_eq_true om];rfl,qcp ?_⟩
     (try walk_at "rd")
     refine ⟨qb5 (w6 _ _ f1),p,ws,_,rfl,rfl,w6 _ _ f1,wm,by omega,?_⟩
     (try walk_at "rd")
     refine ⟨qaW (by omega) (by omega) (by decide) (by decide),?_⟩
     rw [ix,qa5,qb3,oe]
     refine ⟨false,by rw [decide_eq_true rfl];rfl,qcp ⟨qb5 b2,qb5 (w6 _ _ f1),p,ws,_,rfl,rfl,w6 _ _ f1,wm,by omega,?_⟩⟩
     rw [ix]
     refine ⟨q2,_,_,rfl,rfl,b2,qcL (by rw [qbz,List.length_take];omega),hN _ _ ⟨_,_,_,_,rfl,w6.upd hq2',by rw [qaz n23];exact b3,?_⟩⟩
     rw [qai,qdL ek]
     simp
 rintro σ H4 ⟨v7,v8,v9,v10,rfl,s4,b3,b2⟩
 rw [qaS,List.length_map,List.take_length] at b2
 (try walk_at "rd")
 refine ⟨_,.inl (SqL.of (s4 _ _ f1)),by rw [qaS];omega,by rw [qaS];omega,?_⟩
 rw [qaS,Int.toNat_natCast]
 refine qdy (fun k=>a.testBit k) (fun k => .int (k:Nat)) (by omega) (fun k hk H5 s5 R R' r1 r2=>?_) fun H5 p5 s5 hp5=>?_
 · (try walk_at "rd")
   refine ⟨by omega,?_⟩
   cases b:a.testBit k with
   | false =>
     rw [if_neg (by rw [qfd,b];decide)]
     exact r2 b _ (qau.refl _)
   | true =>
     rw [if_pos (by rw [qfd,b])]
     exact r1 b _ (qau.refl _)
 rw [qfm,show (List.range ws.length).filter (fun k=>a.testBit k)=Fam.nms 8 a from qnE hw.few alt]
 refine qg5 (SqL.of (qau.new hp5 _ _ (s5 _ _ b2))) (SqL.of qai) (qc4 _) (qc4 _) ?_
 rw [qgk,decide_eq_true rfl]
 exact q _ ((s4.trans s5).trans (qau.new hp5))
abbrev qbL:Stmt:=top 96
theorem qeL:qan ["_law_desk", "_law_words_here", "_law_name", "_law_family_here", "_law_found", "_law_full", "_law_one", "_law_said_here", "_law_word"] ["_law_desk", "_law_words_here", "_law_name", "_law_family_here", "_law_found"] (qad qbL):=⟨rfl,rfl,rfl,by decide +kernel,rfl,by decide +kernel,by decide +kernel⟩
theorem qoP (A:List Nat) (a:Nat):inV (.bl true) (A.map fun b=>V.bl (decide (a&&&b=b)))=Fam.sayP A a:=by
 unfold inV Fam.sayP
 rw [List.any_map]
 refine congrArg (fun f=>A.any f) (funext fun b=>?_)
 have e:decide (Fam.sub b a)=decide (a&&&b=b):=decide_eq_decide.mpr Iff.rfl
 rw [e]
 show eqV (V.bl (decide (a&&&b=b))) (V.bl true)=_
 generalize decide (a&&&b=b)=z
 cases z<;>rfl
theorem qlW (A:List Nat) (a:Nat):(A.map fun b=>V.bl (decide (a&&&b=b))).all qb0=true:=by
 rw [List.all_map]
 exact List.all_eq_true.mpr fun b _=>rfl
theorem qmG {ws:List Str} {fs:List Nat} {a:Nat} (hw:Tx.Wds ws) (hb:∀b∈fs,b<2^ws.length) (ha:a<2^ws.length):(qel ws fs a).length≤100000:=by
 unfold qel
 cases e:qcD fs a with
 | some b =>
   dsimp only
   unfold wsT
   have z:=Tx.sT_len hw (hb b (List.mem_of_find?_eq_some e))
   rw [←Tx.len_sg,Tx.lit_space,Tx.txt_join]
   refine Nat.le_trans (Tx.jn_len (M:=80) fun x hx=>?_) (show _*81≤_ by simp)
   obtain ⟨w,hw',rfl⟩:=List.mem_map.mp hx
   rw [Tx.len_sg]
   rcases List.mem_cons.mp hw' with rfl | h
   · decide +kernel
   · rw [show w=Tx.sT ws b by simpa using h]
     omega
 | none =>
   dsimp only
   cases e2:qhW fs a with
   | some k =>
     dsimp only
     have kl:=Tx.nms_lt ha (List.mem_of_find?_eq_some e2)
     have g1:(ws.getD k Str.empty).length≤8:=by
       rw [List.getD_eq_getElem?_getD,List.getElem?_eq_getElem kl]
       exact (hw.wd _ (List.getElem_mem kl)).2.1
     rw [Str.length_append,show (Str.ofString "spare ").length=6 by decide +kernel]
     omega
   | none=>exact qhu hw hb ha
theorem qkT {ws:List Str} {A:List Nat} {c:Nat} (hw:Tx.Wds ws) (hb:∀b∈A,b<2^ws.length) (hc:c<2^ws.length):∃wd r,_root_.PySem.Txt.split (qel ws A c) " " = wd::r∧decide (wd=Str.ofString "misses") = !Fam.hitP A c:=by
 have hf:=qgK A c
 unfold qel
 cases e:qcD A c with
 | some b =>
   obtain ⟨r,er⟩:=qdg (d := "misses") (by decide +kernel) ([b].map (Tx.sT ws))
   refine ⟨_,r,er,?_⟩
   have:Fam.hitP A c=false:=by
     cases h:Fam.hitP A c with
     | false=>rfl
     | true=>rw [show qcD A c=none from hf.mpr h] at e;cases e
   rw [this]
   decide +kernel
 | none =>
   have h1:Fam.hitP A c=true:=hf.mp e
   rw [h1]
   dsimp only
   cases e2:qhW A c with
   | some k =>
     dsimp only
     have kl:=Tx.nms_lt hc (List.mem_of_find?_eq_some e2)
     refine ⟨"spare",_root_.PySem.Txt.split (ws.getD k Str.empty) " ",?_,by decide +kernel⟩
     have e3:Str.ofString "spare " ++ ws.getD k Str.empty=pre ["spare"] (ws.getD k Str.empty):=by
       rw [qip]
       congr 1
     rw [e3,qdF _ _ (by decide +kernel)]
     rfl
   | none =>
     obtain ⟨r,er⟩:=qdg (d := "least") (by decide +kernel) ((Fam.nms 8 c).map (lkT ws A c))
     exact ⟨_,r,er,by decide +kernel⟩
def qim (cD:Addr):Sp:=sp5 fun x y z u v H Q=>∃(d pk p pf ph:Addr) (ws:List Str) (m:List (Str×List Nat)) (n:Str) (A:List Nat),x = .ref d∧y = .ref p∧z = .str n∧u = .ref pf∧v = .ref ph∧qfj cD H d pk ws m∧H p=some (.lst (sV ws))∧Tx.Wd n∧m.lookup n=some A∧H pf=some (.lst (nV A))∧H ph=some (.lst (nV (Fam.hits ws.length A)))∧∀H',qau H H'→Q (.bl true) H'
theorem qhZ {f:Addr} {fd:FuncData} (F:Fun K "_law_said" "_law_said" qbL f fd) (T:Txt mg) {cD aW:Addr} (Z:Xt P w K mg cD aW) {f_46:Addr} {fd_46:FuncData} (C_46:qfe P w K mg base cD "say" 7 ["self", "row"] (qkr cD) f_46 fd_46) {f_22:Addr} {fd_22:FuncData} (C_22:Cal P w K mg base "_law_meets" 1 ["_law_one", "_law_family_here"] (qeZ K) f_22 fd_22) {f_06:Addr} {fd_06:FuncData} (C_06:Cal P w K mg base "_law_set_text" 1 ["_law_words_here", "_law_one"] (qf3 K) f_06 fd_06):qaZ P w K mg base CX0 8 f fd ["_law_desk", "_law_words_here", "_law_name", "_law_family_here", "_law_found"] (qim cD):=by
 have sc:=qeL
 refine F.ok qeL (fun vs H Q E h=>by obtain ⟨_,_,_,_,_,rfl,_⟩:=h;rfl) (fun cdv A outer s H vs Q E hr h=>?_)
 obtain ⟨x0,x1,x2,x3,x4,rfl,h⟩:=h
 refine ⟨_,(qab (qax (i:=5) sc.nd rfl (Or.inl rfl) (qaq qjq (qaq qbx qaf (qaB (qaN (K:=K) rfl) (by rfl) T.n_len PySem.boot_len (qaa (pv 1) qac))) qaf))
   (qab (qbo PassesOwn.never rfl (qaO (by rfl) T.n_range (qaa (qaq qbx qaf (qaB (qaN (K:=K) rfl) (by rfl) T.n_len PySem.boot_len (qaa (pv 1) qac))) qac)) (qas (i:=6) sc.nd rfl (Or.inr rfl)) (qab (qax (i:=7) sc.nd rfl (Or.inl rfl) (qaK (pv 0) Z.cl C_46 hr (by decide) (qaa (qaq qat (qaq qat (qaq qat qag (pv 2)) qag) (qap C_06 hr (by decide) (by rfl) (qaa (pv 1) (qaa (pv 6) qac)))) qac)))
   (qab (qaA (qaj (qbC (K:=K) rfl hr.units0) (pv 7) (qaE (qbF (K:=K) rfl) (qa7 (qaa qag (qaa qag qac))) (qck qhO (by rfl) T.n_int PyProof.Rows.boot_int (qaa (qb1 (qnQ (K:=K) rfl) qcH (qaQ (N:=["_law_other", "_law_one"]) (nt:=1) (caps:=[6]) qaF rfl (qaM (pv 3)) (fun _ _ _ _ _=>(qas (i:=0) (show List.Nodup (α:=Str) ["_law_other", "_law_one"] from by decide +kernel) rfl (Or.inl rfl))) qaJ (fun _ _ _ _ _=>qaY) (fun _ _ _ _ _=>(qb1 (qay (K:=K) rfl hr.units0) (qaq qcz (pv 1) (pv 0)) (pv 0) (qao _)))) (by with_unfolding_all rfl)) qac)) (fun _ _=>rfl)) (qao _)) (qae (qah qcH)) qak)
   (qab (qaA (qaj (qbC (K:=K) rfl hr.units0) (qb1 (qay (K:=K) rfl hr.units0) (pv 7) qag (qao _)) (qap C_22 hr (by decide) (by rfl) (qaa (pv 6) (qaa (pv 4) qac))) (qao _)) (qae (qah qcH)) qak)
   (qab (qax (i:=8) sc.nd rfl (Or.inl rfl) (qaE (qbF (K:=K) rfl) (qbp PySem.F.plainAttrs_str PySem.F.slot_str_split PySem.F.type_str_split qbW (qaK (pv 0) Z.cl C_46 hr (by decide) (qaa (qaq qat (qaq qat (qaq qat qag (pv 2)) qag) (qap C_06 hr (by decide) (by rfl) (qaa (pv 1) (qaa (qaq qjq (pv 5) (pv 6)) qac)))) qac)) (qaa qag qac)) qaf (fun _ _=>rfl)))
   (qae (qaA (qaj (qbC (K:=K) rfl hr.units0) (qb1 (qay (K:=K) rfl hr.units0) (pv 8) qag (qao _)) (qb1 (qay (K:=K) rfl hr.units0) (pv 7) qag (qao _)) (qao _)) (qae (qah qcH)) qak)))))))
   (qae (qah qcH)))),?_⟩
 refine rdg (σ':=[some x0,some x1,some x2,some x3,some x4,none,none,none,none]) rfl ?_
 obtain ⟨d,pk,p,pf,ph,ws,m,n,A,rfl,rfl,rfl,rfl,rfl,D,f1,hn,hA,fA,fH,q⟩:=h
 walk_at "rd"
 have hw:=D.wd
 have h8:=hw.few
 have hA':=D.fm _ _ hA
 have hH':=qdQ h8 A
 have ln:=hn.2.1
 have l5:(Str.ofString "look ").length=5:=by decide +kernel
 have l5':(Str.ofString "says ").length=5:=by decide +kernel
 have l1:(Str.ofString " ").length=1:=by decide +kernel
 have zz:100000≤sizeLine:=by decide
 have pp:=Nat.two_pow_pos ws.length
 have p8:2^ws.length≤256:=Nat.pow_le_pow_right (n:=2) (by decide) h8
 refine ⟨_,.inl (SqL.of f1),?_⟩
 rw [qaS,qa5]
 refine ⟨qaW (by omega) (by omega) (by decide) (by decide),_,.inl (SqL.of f1),?_⟩
 rw [qaS,qa5]
 refine ⟨qaW (by omega) (by omega) (by decide) (by decide),by omega,by omega,?_⟩
 rw [Int.toNat_natCast]
 refine qgf (fun i σ H'=>∃v6 v7 v8:Option V,σ=[some (.ref d),some (.ref p),some (.str n),some (.ref pf),some (.ref ph),some (.int ((2^ws.length:Nat)-1:Int)),v6,v7,v8]∧qau H H') ⟨none,none,none,rfl,qau.refl _⟩ ?_ ?_
 · rintro a σ H4 alt ⟨v6,v7,v8,rfl,s4⟩ N hN
   have D4:=D.same s4
   obtain ⟨dx,pw,o1,_⟩:=D4.ob
   have lsT:=Tx.sT_len hw alt
   (try walk_at "rd")
   refine ⟨dx,_,o1,qaX _ _ (by decide +kernel) (by decide +kernel),by omega,by rw [Str.length_append];omega,_,_,rfl,p,ws,a,rfl,s4 _ _ f1,hw,rfl,alt,fun H1 s1=>⟨_,rfl,by rw [Str.length_append,Str.length_append];omega,_,_,rfl,d,pk,ws,m,_, "says",[n,Tx.sT ws a],["family", "set"],[.fm A,.nu a],rfl,D4.same s1,rfl,qrZ (by decide +kernel) (by decide +kernel) (by decide +kernel) (by decide +kernel) hn (Tx.sT_free hw alt) rfl (by decide +kernel) (by omega),qhz.cons (.fam hA) (qcU (.set alt)),.inr ⟨"family",_,rfl,by decide +kernel,.says hA' alt,fun t H2 ht s2=>?_⟩⟩⟩
   subst ht
   have w2:=(s4.trans s1).trans s2
   (try walk_at "rd")
   refine ⟨qaC (by simp),fun q1 hq1=>?_⟩
   generalize g1:upd H2 q1 _=G1
   have a1:=qaw g1
   have w3:=w2.trans (qar g1 hq1)
   refine ⟨⟨_,SqL.of (w3 _ _ fA)⟩,qcX (fs:=A) (fun _=>true) (fun b => .bl (decide (a&&&b=b))) (SqL.of (w3 _ _ fA)) (by have:=hA'.few;omega) (fun b hb H5 s5 R R' r1 r2=>?_) fun H5 p5 s5 hp5=>?_⟩
   · (try walk_at "rd")
     rw [qb3,show decide (((a&&&b:Nat):Int)=((b:Nat):Int))=decide (a&&&b=b) from decide_eq_decide.mpr (by omega)]
     exact r1 rfl _ (qau.refl _)
   rw [List.filter_eq_self.mpr fun _ _=>rfl]
   generalize g5:upd H5 p5 _=G5
   have a5:=qaw g5
   have t5:=s5.trans (qar g5 hp5)
   have w5:=w3.trans t5
   refine ⟨p5,rfl,_,.inl (SqL.of a5),rfl,qlW A a,?_⟩
   rw [qoP]
   have eyn:∀b:Bool,atI [V.str (Str.ofString "no"),V.str (Str.ofString "yes")] (if b=true then 1 else 0)=some (.str (Str.ofString (if b=true then "yes" else "no"))):=fun b=>by cases b<;>exact qaL rfl
   refine qaT (SqL.of (t5 _ _ a1)) (eyn _) ⟨_,.inl ⟨rfl,rfl⟩,false,congrArg V.bl (by rw [decide_eq_true rfl];rfl),qcp ?_⟩
   have hsh:Fam.hitP (Fam.hits ws.length A) a=Fam.sayP A a:=by
     rw [←Fam.say_hits alt,Fam.hits_hits hA'.rise hA'.lt,Fam.say_mins hA'.rise]
   have eys:decide (Str.ofString (if Fam.sayP A a=true then "yes" else "no")=Str.ofString "yes")=Fam.sayP A a:=by
     cases Fam.sayP A a
     · decide +kernel
     · decide +kernel
   refine ⟨_,_,rfl,a,ph,_,rfl,rfl,w5 _ _ fH,by have:=hH'.few;omega,fun H6 s6=>?_⟩
   have w6:=w5.trans s6
   rw [eys,hsh]
   refine ⟨_,.inl ⟨rfl,rfl⟩,false,congrArg V.bl (by rw [decide_eq_true rfl];rfl),qcp ?_⟩
   have D6:=D.same w6
   obtain ⟨dx6,pw6,o6,_⟩:=D6.ob
   have blt:=Fam.rst_lt ws.length a
   have lsB:=Tx.sT_len hw blt
   rw [show (((2^ws.length:Nat):Int)-1-((a:Nat):Int))=((Fam.rst ws.length a:Nat):Int) from by unfold Fam.rst;omega]
   refine ⟨dx6,_,o6,qaX _ _ (by decide +kernel) (by decide +kernel),by omega,by rw [Str.length_append];omega,_,_,rfl,p,ws,_,rfl,w6 _ _ f1,hw,rfl,blt,fun H7 s7=>⟨_,rfl,by rw [Str.length_append,Str.length_append];omega,_,_,rfl,d,pk,ws,m,_, "look",[n,Tx.sT ws (Fam.rst ws.length a)],["family", "set"],[.fm A,.nu (Fam.rst ws.length a)],rfl,D6.same s7,rfl,qrZ (by decide +kernel) (by decide +kernel) (by decide +kernel) (by decide +kernel) hn (Tx.sT_free hw blt) rfl (by decide +kernel) (by omega),qhz.cons (.fam hA) (qcU (.set blt)),.inr ⟨"family",_,rfl,by decide +kernel,.look hA' blt,fun t H8 ht s8=>?_⟩⟩⟩
   subst ht
   have w8:=(w6.trans s7).trans s8
   obtain ⟨wd,rr,er,ew⟩:=qkT (ws:=ws) (A:=A) (c:=Fam.rst ws.length a) hw hA'.lt blt
   refine ⟨rfl,_,_,rfl,rfl,by rw [Tx.lit_space];rfl,qmG hw hA'.lt blt,fun q9 hq9=>?_⟩
   rw [show _root_.PySem.Txt.split (qel ws A (Fam.rst ws.length a)) (Str.ofString " ")=_ from er]
   refine qaT (SqL.of qai) (qc3 (i:=0) rfl) ?_
   (try walk_at "rd")
   have e9:decide (wd=Str.ofString "misses")=Fam.sayP A a:=by rw [ew,Fam.hit_say' hA'.lt blt,Fam.rst_rst alt,Bool.not_not]
   exact ⟨false,by rw [decide_eq_true e9];rfl,qcp (hN _ _ ⟨_,_,_,rfl,w8.trans (qau.new hq9)⟩)⟩
 · rintro σ H4 ⟨v6,v7,v8,rfl,s4⟩
   (try walk_at "rd")
   exact q _ s4
abbrev qgQ:Stmt:=top 97
theorem qnS:qan ["_law_script", "_law_cells_here", "_law_many", "_law_family_here", "_law_words_here", "_law_desk", "_law_name", "_law_text_here", "_law_due_here", "_law_one", "_law_word", "_law_of_hits", "_law_of_all", "_law_small"] ["_law_script"] (qad qgQ):=⟨rfl,rfl,rfl,by decide +kernel,rfl,by decide +kernel,by decide +kernel⟩
theorem qmN {A:List Nat} (hr:A.Pairwise (· < ·)):A.filter (fun a=>decide (A.filter (fun b=>decide (b≠a∧a&&&b=b))=[]))=Fam.mins A:=by
 refine Fam.rise_ext (hr.sublist List.filter_sublist) (Fam.mins_rise hr) fun a=>?_
 rw [List.mem_filter,decide_eq_true_eq,List.filter_eq_nil_iff,Fam.mem_mins hr]
 constructor
 · rintro ⟨h1,h3⟩
   refine ⟨h1,fun b hb hs=>?_⟩
   have:=h3 b hb
   rw [decide_eq_true_eq] at this
   exact Classical.byContradiction fun hne=>this ⟨hne,hs⟩
 · rintro ⟨h1,h3⟩
   refine ⟨h1,fun b hb=>?_⟩
   rw [decide_eq_true_eq]
   rintro ⟨hne,hs⟩
   exact hne (h3 b hb hs)
def cwd:Bool→Bool→Str
 | false,false => "alike"
 | true,false => "heavier"
 | false,true => "lighter"
 | true,true => "apart"
theorem qjC (n:Nat) (f:Nat→Bool) (i j:Nat):∃(w:Str) (as:List Nat),qmR n f i j = .str w::nV as∧w.length≤8∧as.length≤8∧(∀a∈as,a<2^n)∧32∉Tx.sg w∧w=cwd (Fam.part n f i j).isSome (Fam.part n f j i).isSome:=by
 unfold qmR
 cases e1:Fam.part n f i j with
 | none =>
   cases e2:Fam.part n f j i with
   | none=>exact ⟨"alike",[],rfl,by decide +kernel,by decide,fun a ha=>(by cases ha),by decide +kernel,rfl⟩
   | some t=>exact ⟨"lighter",[t],rfl,by decide +kernel,by simp,fun a ha=>(by rw [List.mem_singleton.mp ha];exact (Fam.part_some e2).1),by decide +kernel,rfl⟩
 | some s =>
   cases e2:Fam.part n f j i with
   | none=>exact ⟨"heavier",[s],rfl,by decide +kernel,by simp,fun a ha=>(by rw [List.mem_singleton.mp ha];exact (Fam.part_some e1).1),by decide +kernel,rfl⟩
   | some t =>
     refine ⟨"apart",[s,t],rfl,by decide +kernel,by simp,fun a ha=>?_,by decide +kernel,rfl⟩
     rcases List.mem_cons.mp ha with rfl | ha
     · exact (Fam.part_some e1).1
     · rw [List.mem_singleton.mp ha]
       exact (Fam.part_some e2).1
theorem qnq {ws:List Str} {u:Str} {as:List Nat} (hw:Tx.Wds ws) (h1:u.length≤8) (h2:as.length≤8) (h3:∀a∈as,a<2^ws.length):(wsT ws u as).length≤100000:=by
 unfold wsT
 rw [←Tx.len_sg,Tx.lit_space,Tx.txt_join]
 refine Nat.le_trans (Tx.jn_len (M:=80) fun x hx=>?_) (show _*81≤_ by rw [List.length_map,List.length_cons,List.length_map];omega)
 obtain ⟨w,hw',rfl⟩:=List.mem_map.mp hx
 rw [Tx.len_sg]
 rcases List.mem_cons.mp hw' with rfl | h
 · omega
 · obtain ⟨b,hb,rfl⟩:=List.mem_map.mp h
   have:=Tx.sT_len hw (h3 b hb)
   omega
theorem qq5 {ws:List Str} {v w:Str} (h1:v∈ws) (h2:w∈ws) (e:ws.idxOf v=ws.idxOf w):v=w:=by
 have a:=List.getElem_idxOf (List.idxOf_lt_length_of_mem h1)
 have b:=List.getElem_idxOf (List.idxOf_lt_length_of_mem h2)
 rw [←a,←b]
 simp only [e]
theorem qrV {ws:List Str} (hn:ws.Nodup) {i j:Nat} {w:Str} (h1:ws[i]?=some w) (h2:ws[j]?=some w):i=j:=by
 obtain ⟨l1,e1⟩:=List.getElem?_eq_some_iff.mp h1
 obtain ⟨l2,e2⟩:=List.getElem?_eq_some_iff.mp h2
 have a:=hn.idxOf_getElem i l1
 have b:=hn.idxOf_getElem j l2
 rw [e1] at a
 rw [e2] at b
 omega
theorem qqF {x y z:Str} (h1:32∉Tx.sg x) (h2:32∉Tx.sg y) (h3:32∉Tx.sg z):∀d∈[x,y,z],32∉Tx.sg d:=fun d hd=>by
 rcases List.mem_cons.mp hd with rfl | hd
 · exact h1
 · rcases List.mem_cons.mp hd with rfl | hd
   · exact h2
   · rw [List.mem_singleton.mp hd]
     exact h3
theorem qrW {v w:Str} (hv:Tx.Wd v) (hw:Tx.Wd w):Prt (Str.ofString "compare h " ++ v++Str.ofString " " ++ w) "compare" ["h",v,w] ["family", "name", "name"]:=by
 have e:Str.ofString "compare h " ++ v++Str.ofString " " ++ w=pre ["compare", "h",v] w:=by
   rw [show Str.ofString "compare h " = ("compare" : Str) ++ " " ++ (("h" : Str) ++ " ") by decide +kernel]
   show _=("compare" : Str) ++ " " ++ (("h" : Str) ++ " " ++ (v ++ " " ++ w))
   simp only [qcn]
 rw [e]
 refine qfq (ds:=["h",v]) (by decide +kernel) (by decide +kernel) (qqF (by decide +kernel) (by decide +kernel) (hv.free (by decide))) (hw.free (by decide)) rfl ?_
 rw [←e,Str.length_append,Str.length_append,Str.length_append,show (Str.ofString " ").length=1 by decide +kernel,show (Str.ofString "compare h ").length=10 by decide +kernel]
 have:=hv.2.1
 have:=hw.2.1
 omega
theorem qro {n v w:Str} (hn:Tx.Wd n) (hv:Tx.Wd v) (hw:Tx.Wd w):Prt (Str.ofString "compare " ++ n++Str.ofString " " ++ v++Str.ofString " " ++ w) "compare" [n,v,w] ["family", "name", "name"]:=by
 have e:Str.ofString "compare " ++ n++Str.ofString " " ++ v++Str.ofString " " ++ w=pre ["compare",n,v] w:=by
   rw [show Str.ofString "compare " = ("compare" : Str) ++ " " by decide +kernel]
   show _=("compare" : Str) ++ " " ++ (n ++ " " ++ (v ++ " " ++ w))
   simp only [qcn]
 rw [e]
 refine qfq (ds:=[n,v]) (by decide +kernel) (by decide +kernel) (qqF (by decide +kernel) (hn.free (by decide)) (hv.free (by decide))) (hw.free (by decide)) rfl ?_
 rw [←e,Str.length_append,Str.length_append,Str.length_append,Str.length_append,Str.length_append,show (Str.ofString " ").length=1 by decide +kernel,show (Str.ofString "compare ").length=8 by decide +kernel]
 have:=hn.2.1
 have:=hv.2.1
 have:=hw.2.1
 omega
theorem qqH {n:Str} (hn:Tx.Wd n):Prt (Str.ofString "held " ++ n++Str.ofString " h") "held" [n, "h"] ["family", "family"]:=by
 have e:Str.ofString "held " ++ n++Str.ofString " h" = pre ["held",n] "h" := by
   rw [show Str.ofString "held " = ("held" : Str) ++ " " by decide +kernel,show Str.ofString " h" = (" " : Str) ++ "h" by decide +kernel]
   show _=("held" : Str) ++ " " ++ (n ++ " " ++ "h")
   simp only [qcn]
 rw [e]
 refine qfq (ds:=[n]) (by decide +kernel) (by decide +kernel) (fun y hy=>?_) (by decide +kernel) rfl ?_
 · rcases List.mem_cons.mp hy with rfl | hy
   · decide +kernel
   · rw [List.mem_singleton.mp hy]
     exact hn.free (by decide)
 · rw [←e,Str.length_append,Str.length_append,show (Str.ofString " h").length=2 by decide +kernel,show (Str.ofString "held ").length=5 by decide +kernel]
   have:=hn.2.1
   omega
theorem qjD {m:Nat} {fs gs:List Nat} (h:Fam.Each m fs gs):qoF m fs gs=[.str ("each" : Str)]:=by
 have e1:qhw fs gs=none:=List.find?_eq_none.mpr fun a ha=>by
   have:qjZ gs a=none:=List.find?_eq_none.mpr fun b hb=>by
     have:=h.1 a ha b hb
     simp [this]
   rw [this]
   decide
 have e2:qew m fs gs=none:=List.find?_eq_none.mpr fun s hs=>by
   rcases h.2 s (List.mem_range.mp hs) with h | h<;>simp [h]
 unfold qoF
 rw [e1,e2]
theorem qkn {m:Nat} {A:List Nat} (h:Fml m A):Fam.Each m A (Fam.hits m A):=(Fam.each_iff h.lt (Fam.hits_rise _ _) fun b hb=>Fam.hits_lt b hb).mpr (Fam.mins_hits m A).symm
theorem qgt {m:Nat} {A:List Nat} (h:Fml m A):Fam.trns m (Fam.sayP (Fam.hits m A))=Fam.trns m (Fam.sayP A):=(Fam.trns_congr fun s hs=>Fam.say_hits_du h.lt hs).trans Fam.trns_du
theorem qfF {ws:List Str} {A:List Nat} (h:Fml ws.length A) {x y:Nat} (hxy:x≠y) (hx:x<ws.length) (hy:y<ws.length):(Fam.part ws.length (Fam.sayP (Fam.hits ws.length A)) x y).isSome=(Fam.part ws.length (Fam.sayP A) x y).isSome:=by
 rw [Fam.part_congr hx hy fun s hs=>Fam.say_hits_du h.lt hs]
 exact Fam.part_du hxy hx hy
theorem qc6 {ws:List Str} {A:List Nat} (h:Fml ws.length A) {x y:Nat} (hxy:x≠y) (hx:x<ws.length) (hy:y<ws.length):Fam.part ws.length (Fam.sayP (Fam.hits ws.length A)) x y=none↔Fam.part ws.length (Fam.sayP A) x y=none:=by
 have:=qfF h hxy hx hy
 rw [←Option.isNone_iff_eq_none,←Option.isNone_iff_eq_none]
 cases e1:Fam.part ws.length (Fam.sayP (Fam.hits ws.length A)) x y<;>cases e2:Fam.part ws.length (Fam.sayP A) x y<;>rw [e1,e2] at this<;>simp_all
theorem qoT {ws:List Str} {A:List Nat} (h:Fml ws.length A) {t u:Str} (h1:RkT ws (Fam.sayP A) t) (h2:RkT ws (Fam.sayP (Fam.hits ws.length A)) u):u=t:=by
 have ap:∀{x y x' y':Nat},x<y→y<ws.length→x'<y'→y'<ws.length→qmJ ws.length (Fam.sayP A) x y→qmJ ws.length (Fam.sayP (Fam.hits ws.length A)) x' y'→Fam.part ws.length (Fam.sayP A) x y≠none→Fam.part ws.length (Fam.sayP A) y x≠none→Fam.part ws.length (Fam.sayP (Fam.hits ws.length A)) x' y'≠none→Fam.part ws.length (Fam.sayP (Fam.hits ws.length A)) y' x'≠none→x=x'∧y=y':=by
   intro x y x' y' a1 a2 a3 a4 n1 n2 p1 p2 p3 p4
   have b1:¬(x'<x∨x'=x∧y'<y):=fun z=>by
     rcases n1 x' y' a3 a4 z with e | e
     · exact p3 ((qc6 h (by omega) (by omega) a4).mpr e)
     · exact p4 ((qc6 h (by omega) a4 (by omega)).mpr e)
   have b2:¬(x<x'∨x=x'∧y<y'):=fun z=>by
     rcases n2 x y a1 a2 z with e | e
     · exact p1 ((qc6 h (by omega) (by omega) a2).mp e)
     · exact p2 ((qc6 h (by omega) a2 (by omega)).mp e)
   omega
 rcases h1 with ⟨x,y,s,v,a1,a2,n1,p1,p2,rfl⟩ | ⟨n1,rfl⟩
 · rcases h2 with ⟨x',y',s',v',a3,a4,n2,p3,p4,rfl⟩ | ⟨n2,rfl⟩
   · obtain ⟨rfl,rfl⟩:=ap a1 a2 a3 a4 n1 n2 (by rw [p1];simp) (by rw [p2];simp) (by rw [p3];simp) (by rw [p4];simp)
     rfl
   · exfalso
     rcases n2 x y a1 a2 (.inl (by omega)) with e | e
     · rw [(qc6 h (by omega) (by omega) a2).mp e] at p1
       cases p1
     · rw [(qc6 h (by omega) a2 (by omega)).mp e] at p2
       cases p2
 · rcases h2 with ⟨x',y',s',v',a3,a4,n2,p3,p4,rfl⟩ | ⟨n2,rfl⟩
   · exfalso
     rcases n1 x' y' a3 a4 (.inl (by omega)) with e | e
     · rw [(qc6 h (by omega) (by omega) a4).mpr e] at p3
       cases p3
     · rw [(qc6 h (by omega) a4 (by omega)).mpr e] at p4
       cases p4
   · rw [qgt h]
theorem qoD (x:Nat):∃n:Str,Tx.Wd n∧atI [V.str (Str.ofString "a"),V.str (Str.ofString "none"),V.str (Str.ofString "hits"),V.str (Str.ofString "zzzzzzzz")] (((x:Nat):Int)%4)=some (.str n)∧¬n = "h" ∧ ¬n = "b" := by
 have h:=Nat.mod_lt x (show 0<4 by decide)
 rw [show ((x:Nat):Int)%4=((x%4:Nat):Int) from rfl]
 generalize x%4=y at h
 match y,h with
 | 0,_=>exact ⟨"a",⟨by decide +kernel,by decide +kernel,by decide +kernel⟩,qaL rfl,by decide +kernel,by decide +kernel⟩
 | 1,_=>exact ⟨"none",⟨by decide +kernel,by decide +kernel,by decide +kernel⟩,qaL rfl,by decide +kernel,by decide +kernel⟩
 | 2,_=>exact ⟨"hits",⟨by decide +kernel,by decide +kernel,by decide +kernel⟩,qaL rfl,by decide +kernel,by decide +kernel⟩
 | 3,_=>exact ⟨"zzzzzzzz",⟨by decide +kernel,by decide +kernel,by decide +kernel⟩,qaL rfl,by decide +kernel,by decide +kernel⟩
theorem qsB {ws:List Str} {A:List Nat} {n:Str} (hw:Tx.Wds ws) (hA:Fml ws.length A) (hn:Tx.Wd n):Prt (Str.ofString "let " ++ n++Str.ofString " " ++ Tx.fT ws A) "let" [n,Tx.fT ws A] ["new", "text"]:=by
 have e:=qr7 (z:=Str.ofString "let ") (d := "let") (n:=n) (x:=Tx.fT ws A) (by decide +kernel)
 rw [e]
 refine qpb (hn.free (by decide)) ?_
 rw [←e,Str.length_append,Str.length_append,Str.length_append,show (Str.ofString " ").length=1 by decide +kernel,show (Str.ofString "let ").length=4 by decide +kernel]
 have:=hn.2.1
 have:=Tx.fT_len hw hA.lt (by have:=hA.few;omega)
 omega
def qlM (K:W.Frag):Sp:=sp1 fun x H Q=>∃(a:Addr) (ns:List Int),x = .ref a∧SqL K H a (ns.map V.int)∧ns.length≤63∧∀H',Q (.bl true) H'
theorem qqB {f:Addr} {fd:FuncData} (F:Fun K "law" "law" qgQ f fd) (T:Txt mg) {cD aW:Addr} (Z:Xt P w K mg cD aW) {f_19:Addr} {fd_19:FuncData} (C_19:Cal P w K mg base "_law_cells" 1 ["_law_script", "_law_amount"] (qgF K) f_19 fd_19) {f_20:Addr} {fd_20:FuncData} (C_20:Cal P w K mg base "_law_drawn" 2 ["_law_script", "_law_bound"] (qi2 K) f_20 fd_20) {f_21:Addr} {fd_21:FuncData} (C_21:Cal P w K mg base "_law_words" 1 ["_law_cell", "_law_many"] (qfI K) f_21 fd_21) {f_08:Addr} {fd_08:FuncData} (C_08:qoC P w K mg base cD 3 ["self", "text"] (qkv cD) f_08 fd_08) {f_28:Addr} {fd_28:FuncData} (C_28:Cal P w K mg base "_law_text" 2 ["_law_words_here", "_law_family_here"] (qiQ K) f_28 fd_28) {f_37:Addr} {fd_37:FuncData} (C_37:Cal P w K mg base "_law_due" 2 ["_law_many", "_law_family_here"] (qlq K) f_37 fd_37) {f_46:Addr} {fd_46:FuncData} (C_46:qfe P w K mg base cD "say" 7 ["self", "row"] (qkr cD) f_46 fd_46) {f_29:Addr} {fd_29:FuncData} (C_29:Cal P w K mg base "_law_read" 2 ["_law_words_here", "_law_text_here"] (qi3 K) f_29 fd_29) {f_18:Addr} {fd_18:FuncData} (C_18:Cal P w K mg base "_law_looked" 8 ["_law_desk", "_law_words_here", "_law_name", "_law_family_here", "_law_one"] (qfM cD) f_18 fd_18) {f_34:Addr} {fd_34:FuncData} (C_34:Cal P w K mg base "_law_said" 8 ["_law_desk", "_law_words_here", "_law_name", "_law_family_here", "_law_found"] (qim cD) f_34 fd_34):qaZ P w K mg base CX0 9 f fd ["_law_script"] (qlM K):=by
 have sc:=qnS
 refine F.ok qnS (fun vs H Q E h=>by obtain ⟨_,rfl,_⟩:=h;rfl) (fun cdv A outer s H vs Q E hr h=>?_)
 obtain ⟨x0,rfl,h⟩:=h
 refine ⟨_,(qab (qax (i:=1) sc.nd rfl (Or.inl rfl) (qap C_19 hr (by decide) (by rfl) (qaa (pv 0) (qaa qaf qac))))
   (qab (qnw (qap C_20 hr (by decide) (by rfl) (qaa (pv 0) (qaa (qaE (qbF (K:=K) rfl) (qa7 (qaa qaf (qaa qaf qac))) (qck qhO (by rfl) T.n_int PyProof.Rows.boot_int (qaa (qb1 (qay (K:=K) rfl hr.units0) (qaq qbt (qaq qbG (qaE (qbF (K:=K) rfl) (pv 1) qaf (fun _ _=>rfl)) qaf) qaf) qaf (qao _)) qac)) (fun _ _=>rfl)) qac))) (qjn (n:=2) rfl (qbV (qas (i:=2) sc.nd rfl (Or.inl rfl)) (qbV (qas (i:=3) sc.nd rfl (Or.inr rfl)) qe7))))
   (qab (qax (i:=4) sc.nd rfl (Or.inl rfl) (qap C_21 hr (by decide) (by rfl) (qaa (qaE (qbF (K:=K) rfl) (pv 1) qaf (fun _ _=>rfl)) (qaa (pv 2) qac))))
   (qab (qax (i:=5) sc.nd rfl (Or.inl rfl) (qmT C_08 hr (by decide) (by rfl) Z.gDesk (qaa (qbp PySem.F.plainAttrs_str PySem.F.slot_str_join PySem.F.type_str_join (qbP (K:=K) rfl) qag (qaa (pv 4) qac)) qac)))
   (qab (qax (i:=6) sc.nd rfl (Or.inl rfl) (qaE (qbF (K:=K) rfl) (qa7 (qaa qag (qaa qag (qaa qag (qaa qag qac))))) (qaq qbt (qaE (qbF (K:=K) rfl) (pv 1) qaf (fun _ _=>rfl)) qaf) (fun _ _=>rfl)))
   (qab (qax (i:=7) sc.nd rfl (Or.inl rfl) (qap C_28 hr (by decide) (by rfl) (qaa (pv 4) (qaa (pv 3) qac))))
   (qab (qaA (PW.pt (qhk (qaj (qbC (K:=K) rfl hr.units0) (qaK (pv 5) Z.cl C_46 hr (by decide) (qaa (qaq qat (qaq qat (qaq qat qag (pv 6)) qag) (pv 7)) qac)) qag (qao _)) (qdT (qaj (qbC (K:=K) rfl hr.units0) (qaK (pv 5) Z.cl C_46 hr (by decide) (qaa (qaq qat qag (pv 6)) qac)) qag (qao _))))) (qae (qah qcH)) qak)
   (qab (qax (i:=8) sc.nd rfl (Or.inl rfl) (qap C_37 hr (by decide) (by rfl) (qaa (pv 2) (qaa (pv 3) qac))))
   (qab (qaA (PW.pt (qhk (qaj (qbC (K:=K) rfl hr.units0) (qaK (pv 5) Z.cl C_46 hr (by decide) (qaa qag qac)) (qap C_28 hr (by decide) (by rfl) (qaa (pv 4) (qaa (pv 8) qac))) (qao _)) (qdT (qaj (qbC (K:=K) rfl hr.units0) (qap C_29 hr (by decide) (by rfl) (qaa (pv 4) (qaa (qaK (pv 5) Z.cl C_46 hr (by decide) (qaa qag qac)) qac))) (pv 8) (qao _))))) (qae (qah qcH)) qak)
   (qab (qbo PassesOwn.never rfl (qdd (K:=K) rfl (pv 8)) (qas (i:=9) sc.nd rfl (Or.inl rfl)) (qae (qaA (qb4 (qbn (qap C_18 hr (by decide) (by rfl) (qaa (pv 5) (qaa (pv 4) (qaa (pv 6) (qaa (pv 3) (qaa (pv 9) qac)))))))) (qae (qah qcH)) qak)))
   (qab (qaA (PW.pt (qhk (qb4 (qbn (qap C_34 hr (by decide) (by rfl) (qaa (pv 5) (qaa (pv 4) (qaa (pv 6) (qaa (pv 3) (qaa (pv 8) qac)))))))) (qdT (qaj (qbC (K:=K) rfl hr.units0) (qaK (pv 5) Z.cl C_46 hr (by decide) (qaa (qaq qat qag (pv 6)) qac)) (pv 7) (qao _))))) (qae (qah qcH)) qak)
   (qab (qaA (qaj (qbC (K:=K) rfl hr.units0) (qaK (pv 5) Z.cl C_46 hr (by decide) (qaa (qaq qat qag (pv 6)) qac)) (qaK (pv 5) Z.cl C_46 hr (by decide) (qaa qag qac)) (qao _)) (qae (qah qcH)) qak)
   (qab (qaA (qaj (qbC (K:=K) rfl hr.units0) (qaK (pv 5) Z.cl C_46 hr (by decide) (qaa (qaq qat qag (pv 6)) qac)) (qaK (pv 5) Z.cl C_46 hr (by decide) (qaa qag qac)) (qao _)) (qae (qah qcH)) qak)
   (qab (qbo PassesOwn.never rfl (qdd (K:=K) rfl (qbH (qnP (K:=K) rfl) (pv 4) (qb2 qaf) qcx)) (qas (i:=10) sc.nd rfl (Or.inl rfl)) (qab (qax (i:=11) sc.nd rfl (Or.inl rfl) (qbp PySem.F.plainAttrs_str PySem.F.slot_str_split PySem.F.type_str_split qbW (qaK (pv 5) Z.cl C_46 hr (by decide) (qaa (qaq qat (qaq qat (qaq qat qag (qaE (qbF (K:=K) rfl) (pv 4) qaf (fun _ _=>rfl))) qag) (pv 10)) qac)) (qaa qag qac)))
   (qab (qax (i:=12) sc.nd rfl (Or.inl rfl) (qbp PySem.F.plainAttrs_str PySem.F.slot_str_split PySem.F.type_str_split qbW (qaK (pv 5) Z.cl C_46 hr (by decide) (qaa (qaq qat (qaq qat (qaq qat (qaq qat (qaq qat qag (pv 6)) qag) (qaE (qbF (K:=K) rfl) (pv 4) qaf (fun _ _=>rfl))) qag) (pv 10)) qac)) (qaa qag qac)))
   (qae (qaA (qaj (qbC (K:=K) rfl hr.units0) (qaE (qbF (K:=K) rfl) (pv 11) qaf (fun _ _=>rfl)) (qaE (qbF (K:=K) rfl) (pv 12) qaf (fun _ _=>rfl)) (qao _)) (qae (qah qcH)) qak)))))
   (qab (qaA (PW.pt (qhk (qaj (qbC (K:=K) rfl hr.units0) (qaK (pv 5) Z.cl C_46 hr (by decide) (qaa (qaq qat (qaq qat qag (pv 6)) qag) qac)) qag (qao _)) (qdT (qaj (qbC (K:=K) rfl hr.units0) (qaK (pv 5) Z.cl C_46 hr (by decide) (qaa (qaq qat qag (pv 6)) qac)) qag (qao _))))) (qae (qah qcH)) qak)
   (qab (qmW (i:=13) sc.nd rfl rfl (by rfl) (N:=["_law_one", "_law_family_here"]) (nt:=1) (caps:=[3]) (cx := "_law_one") (qjd (fun _ _=>rfl) (fun _=>rfl)) rfl (qdd (K:=K) rfl (pv 3)) (fun _ _ _ _ _=>(qas (i:=0) (show List.Nodup (α:=Str) ["_law_one", "_law_family_here"] from by decide +kernel) rfl (Or.inr rfl))) qaJ (fun _ _ _ _ _=>(qcv (qaj (qay (K:=K) rfl hr.units0) (qaQ (N:=["_law_other", "_law_one"]) (nt:=1) (caps:=[0]) qaF rfl (qdd (K:=K) rfl (pv 1)) (fun _ _ _ _ _=>(qas (i:=0) (show List.Nodup (α:=Str) ["_law_other", "_law_one"] from by decide +kernel) rfl (Or.inl rfl))) qaJ (fun _ _ _ _ _=>(qcv (PW.pt (qdz (qaj (qbC (K:=K) rfl hr.units0) (pv 0) (pv 1) (qao _)) (qcO (qaj (qay (K:=K) rfl hr.units0) (qaq qcz (pv 1) (pv 0)) (pv 0) (qao _))))))) (fun _ _ _ _ _=>(pv 0))) (qa7 qac) (qao _)))) (fun _ _ _ _ _=>(pv 0)))
   (qae (qah (qjy (qb1 (qay (K:=K) rfl hr.units0) (qaK (pv 5) Z.cl C_46 hr (by decide) (qaa qag qac)) qag (qao _)) (qi9 (qb1 (qay (K:=K) rfl hr.units0) (qaK (pv 5) Z.cl C_46 hr (by decide) (qaa qag qac)) (qap C_28 hr (by decide) (by rfl) (qaa (pv 4) (qaa (pv 13) qac))) (qao _)))))))))))))))))))))),?_⟩
 refine rdg (σ':=[some x0,none,none,none,none,none,none,none,none,none,none,none,none,none]) rfl ?_
 obtain ⟨a,ns,rfl,hS,hlen,q⟩:=h
 walk_at "rd"
 refine ⟨_,_,rfl,a,ns,63,rfl,hS,hlen,rfl,by omega,fun pc cs H1 hp1 s1 fc lc=>⟨qaC (by simp),fun p2 hp2=>?_⟩⟩
 generalize g2:upd H1 p2 _=G2
 have a2:=qaw g2
 have w2:=s1.trans (qar g2 hp2)
 have fc:=qar g2 hp2 _ _ fc
 have at2:cs[2]?=some (cs.getD 2 0):=by rw [List.getD_eq_getElem?_getD,List.getElem?_eq_getElem (by omega)];rfl
 have at3:cs[3]?=some (cs.getD 3 0):=by rw [List.getD_eq_getElem?_getD,List.getElem?_eq_getElem (by omega)];rfl
 refine qaT (SqL.of fc) (qjX at2) ?_
 (try walk_at "rd")
 refine ⟨⟨by decide,by decide⟩,by decide,?_⟩
 obtain ⟨nn,hnn,e68⟩:∃n:Nat,n≤8∧atI [V.int 6,V.int 8] (if ((cs.getD 2 0:Nat):Int)/7%8=5 then 1 else 0)=some (.int (n:Nat)):=by
   split
   · exact ⟨8,by decide,qaL (j:=1) rfl⟩
   · exact ⟨6,by decide,qaL (j:=0) rfl⟩
 have hS:=w2.seq hS
 refine qaT (SqL.of a2) e68 ⟨_,_,rfl,a,ns,nn,rfl,hS,hlen,rfl,hnn,fun t pA m A H3 hm hp3 s3 ft fA rA bA lA=>?_⟩
 have fc:=s3 _ _ fc
 refine ⟨t,rfl,_,SqT.of ft,rfl,_,_,rfl,_,_,rfl,rfl,qaT (SqL.of fc) (qjX at2) ⟨_,_,rfl,cs.getD 2 0,m,rfl,rfl,by omega,fun p ws H4 hp4 s4 f1 hw hl=>?_⟩⟩
 subst hl
 have fc:=s4 _ _ fc
 have fA:=s4 _ _ fA
 have hA:Fml ws.length A:=⟨rA,bA,by omega⟩
 refine ⟨rfl,_,p,ws,rfl,rfl,SqL.of f1,qa2 (M:=8) (N:=8) (fun y hy=>(hw.wd y hy).2.1) hw.few (by rw [Tx.lit_space];decide) (by decide),fun d dx hd hdx hne=>⟨_,_,rfl,d,dx,ws,rfl,qai,rfl,hw,fun pk H5 hpk D5 s5=>⟨rfl,?_⟩⟩⟩
 have t5:qau H4 H5:=fun b o e=>s5 b o (by rw [qaz (qba e hd),qaz (qba e hdx)];exact e) (qba e hd)
 have f1:=t5 _ _ f1
 have fA:=t5 _ _ fA
 have fc:=t5 _ _ fc
 clear s5 t5 hpk hd hdx
 (try walk_at "rd")
 refine ⟨qaC (by simp),fun p6 hp6=>?_⟩
 generalize g6:upd H5 p6 _=G6
 have a6:=qaw g6
 have w6:=qar g6 hp6
 refine qaT (SqL.of (w6 _ _ fc)) (qjX at3) ?_
 (try walk_at "rd")
 obtain ⟨n,hn,en,nh,nb⟩:=qoD (cs.getD 3 0)
 have ln:=hn.2.1
 have h8:=hw.few
 have zz:100000≤sizeLine:=by decide
 have fAl:=Tx.fT_len hw hA.lt (by have:=hA.few;omega)
 have l4:(Str.ofString "let ").length=4:=by decide +kernel
 have l1:(Str.ofString " ").length=1:=by decide +kernel
 have l7:(Str.ofString "hits h ").length=7:=by decide +kernel
 refine ⟨by decide,qaT (SqL.of a6) en ⟨_,_,rfl,p,pA,ws,A,rfl,w6 _ _ f1,hw,rfl,w6 _ _ fA,hA.lt,hA.few,fun H7 s7=>?_⟩⟩
 have D7:=(D5.same w6).same s7
 have f1:=s7 _ _ (w6 _ _ f1)
 have fA:=s7 _ _ (w6 _ _ fA)
 clear fc a6 w6 s7 D5 g6
 obtain ⟨kv7,c7,_⟩:=D7.dc
 have npk:p≠pk:=fun e=>by rw [e,c7] at f1;cases f1
 have nAk:pA≠pk:=fun e=>by rw [e,c7] at fA;cases fA
 obtain ⟨dx7,pw7,o7,_⟩:=D7.ob
 refine ⟨dx7,_,o7,qaX _ _ (by decide +kernel) (by decide +kernel),_,rfl,by omega,by rw [Str.length_append];omega,_,rfl,by rw [Str.length_append,Str.length_append];omega,_,_,rfl,d,pk,ws,[],_, "let",[n,Tx.fT ws A],["new", "text"],[.nm n,.fm A],rfl,D7,rfl,qsB hw hA hn,qhz.cons (.new hn) (qcU (.text hA)),.inl ⟨n,[.fm A],A,rfl,rfl,.let,hA,.inr (by decide),fun H8 s8 D8=>⟨_,.inl ⟨rfl,rfl⟩,false,congrArg V.bl (by rw [decide_eq_true rfl];rfl),qcp ?_⟩⟩⟩
 have f1:=s8 _ _ f1 npk
 have fA:=s8 _ _ fA nAk
 have lm:(qhH [] n A).lookup n=some A:=by rw [qbq,if_pos rfl]
 have hH:=qdQ h8 A
 have wh:Tx.Wd "h" := ⟨by decide +kernel,by decide +kernel,by decide +kernel⟩
 have wb:Tx.Wd "b" := ⟨by decide +kernel,by decide +kernel,by decide +kernel⟩
 obtain ⟨dx8,pw8,o8,_⟩:=D8.ob
 refine ⟨dx8,_,o8,qaX _ _ (by decide +kernel) (by decide +kernel),_,rfl,by omega,_,_,rfl,d,pk,ws,_,_, "hits",["h",n],["new", "family"],[.nm "h",.fm A],rfl,D8,rfl,qd0 (ds:=["h"]) (by decide +kernel) (by decide +kernel) (by decide +kernel) (by decide +kernel) hn rfl (by decide +kernel),qhz.cons (.new wh) (qcU (.fam lm)),.inl ⟨"h",[.fm A],_,rfl,rfl,.hits hA,hH,.inr (by rw [qbT];split<;>simp),fun H9 s9 D9=>⟨_,.inl ⟨rfl,rfl⟩,false,congrArg V.bl (by rw [decide_eq_true rfl];rfl),qcp ?_⟩⟩⟩
 have f1:=s9 _ _ f1 npk
 have fA:=s9 _ _ fA nAk
 have l_n:(qhH (qhH [] n A) "h" (Fam.hits ws.length A)).lookup n=some A:=by rw [qbq,if_neg nh,lm]
 have l_h:(qhH (qhH [] n A) "h" (Fam.hits ws.length A)).lookup ("h" : Str)=some (Fam.hits ws.length A):=by rw [qbq,if_pos rfl]
 have lM:(qhH (qhH [] n A) "h" (Fam.hits ws.length A)).length≤2:=by
   rw [qbT,qbT]
   split<;>split<;>simp
 generalize qhH (qhH [] n A) "h" (Fam.hits ws.length A)=M at D9 l_n l_h lM
 clear D7 D8 s8 s9 c7 o7 o8
 (try walk_at "rd")
 refine ⟨_,_,rfl,ws.length,pA,A,rfl,h8,rfl,fA,by have:=hA.few;omega,fun ph H10 hp10 s10 fH=>?_⟩
 have D10:=D9.same s10
 have f1:=s10 _ _ f1
 have fA:=s10 _ _ fA
 clear D9 s10 hp10
 obtain ⟨dx_a,pw_a,o_a,_⟩:=D10.ob
 refine ⟨dx_a,_,o_a,qaX _ _ (by decide +kernel) (by decide +kernel),_,_,rfl,d,pk,ws,M,_, "show",["h"],["family"],[.fm (Fam.hits ws.length A)],rfl,D10,rfl,(show Prt (Str.ofString "show h") "show" ["h"] ["family"] from ⟨by decide +kernel,by decide +kernel,by decide +kernel,rfl,by decide +kernel⟩),qcU (.fam l_h),.inr ⟨"family",_,rfl,by decide +kernel,.show hH,fun t_a H11 ht_a s11=>?_⟩⟩
 subst ht_a
 refine ⟨_,_,rfl,p,ph,ws,_,rfl,s11 _ _ f1,hw,rfl,s11 _ _ fH,hH.lt,hH.few,fun H12 s12=>⟨_,.inl ⟨rfl,rfl⟩,false,congrArg V.bl (by rw [decide_eq_true rfl];rfl),qcp ?_⟩⟩
 have D12:=(D10.same s11).same s12
 have f1:=s12 _ _ (s11 _ _ f1)
 have fA:=s12 _ _ (s11 _ _ fA)
 have fH:=s12 _ _ (s11 _ _ fH)
 clear D10 s11 s12
 obtain ⟨dx_b,pw_b,o_b,_⟩:=D12.ob
 refine ⟨dx_b,_,o_b,qaX _ _ (by decide +kernel) (by decide +kernel),_,_,rfl,d,pk,ws,M,_, "show",["h"],["family"],[.fm (Fam.hits ws.length A)],rfl,D12,rfl,(show Prt (Str.ofString "show h") "show" ["h"] ["family"] from ⟨by decide +kernel,by decide +kernel,by decide +kernel,rfl,by decide +kernel⟩),qcU (.fam l_h),.inr ⟨"family",_,rfl,by decide +kernel,.show hH,fun t_b H13 ht_b s13=>?_⟩⟩
 subst ht_b
 refine ⟨_,_,rfl,p,ws,_,rfl,s13 _ _ f1,hw,rfl,hH.lt,hH.few,fun pr H14 hp14 s14 fr=>?_⟩
 have D14:=(D12.same s13).same s14
 have f1:=s14 _ _ (s13 _ _ f1)
 have fA:=s14 _ _ (s13 _ _ fA)
 have fH:=s14 _ _ (s13 _ _ fH)
 clear D12 s13 s14 hp14
 refine qqf (SqL.of fr) (SqL.of fH) (qc4 _) (qc4 _) ⟨false,congrArg V.bl (by rw [qgk,decide_eq_true rfl];rfl),qcp ?_⟩
 refine ⟨ph,rfl,⟨_,SqL.of fH⟩,qfQ (fs:=(Fam.hits ws.length A)) (fun i σ H'=>∃v9:Option V,σ=[some (.ref a),some (.ref pc),some (.int (ws.length:Nat)),some (.ref pA),some (.ref p),some (.ref d),some (.str n),some (.str (Tx.fT ws A)),some (.ref ph),v9,none,none,none,none]∧qau H14 H') ⟨none,rfl,qau.refl _⟩ (fun i σ H' _ ⟨_,_,e⟩=>SqL.of (e _ _ fH)) ?_ ?_⟩
 · rintro i b σ H15 hb ⟨v9,rfl,s15⟩ N hN
   (try walk_at "rd")
   refine ⟨_,_,_,_,_,rfl,d,pk,p,pA,ws,M,n,A,b,rfl,rfl,rfl,rfl,rfl,D14.same s15,s15 _ _ f1,hn,l_n,s15 _ _ fA,List.mem_of_getElem? hb,fun H16 s16=>⟨true,rfl,?_⟩⟩
   rw [if_neg (by decide)]
   exact hN _ _ ⟨_,rfl,s15.trans s16⟩
 rintro σ H15 ⟨v9,rfl,s15⟩
 have D15:=D14.same s15
 have f1:=s15 _ _ f1
 have fA:=s15 _ _ fA
 have fH:=s15 _ _ fH
 clear D14 s15
 (try walk_at "rd")
 have l5:(Str.ofString "show ").length=5:=by decide +kernel
 have l6:(Str.ofString "ranks ").length=6:=by decide +kernel
 have l6':(Str.ofString "turns ").length=6:=by decide +kernel
 refine ⟨_,_,_,_,_,rfl,d,pk,p,pA,ph,ws,M,n,A,rfl,rfl,rfl,rfl,rfl,D15,f1,hn,l_n,fA,fH,fun H16 s16=>⟨true,rfl,?_⟩⟩
 rw [if_neg (by decide)]
 have D16:=D15.same s16
 have f1:=s16 _ _ f1
 have fA:=s16 _ _ fA
 clear D15 s16 fH
 obtain ⟨dx_c,pw_c,o_c,_⟩:=D16.ob
 refine ⟨dx_c,_,o_c,qaX _ _ (by decide +kernel) (by decide +kernel),by omega,_,_,rfl,d,pk,ws,M,_, "show",[n],["family"],[.fm A],rfl,D16,rfl,qd0 (ds:=[]) (by decide +kernel) (by decide +kernel) (by decide +kernel) (by decide +kernel) hn rfl (by decide +kernel),qcU (.fam l_n),.inr ⟨"family",_,rfl,by decide +kernel,.show hA,fun t_c H17 ht_c s17=>?_⟩⟩
 subst ht_c
 refine ⟨_,.inl ⟨rfl,rfl⟩,false,congrArg V.bl (by rw [decide_eq_true rfl];rfl),qcp ?_⟩
 have D17:=D16.same s17
 have f1:=s17 _ _ f1
 have fA:=s17 _ _ fA
 clear D16 s17
 obtain ⟨dx_d,pw_d,o_d,_⟩:=D17.ob
 refine ⟨dx_d,_,o_d,qaX _ _ (by decide +kernel) (by decide +kernel),by omega,_,_,rfl,d,pk,ws,M,_, "ranks",[n],["family"],[.fm A],rfl,D17,rfl,qd0 (ds:=[]) (by decide +kernel) (by decide +kernel) (by decide +kernel) (by decide +kernel) hn rfl (by decide +kernel),qcU (.fam l_n),.inr ⟨"family",_,rfl,by decide +kernel,.ranks hA,fun t_d H18 ht_d s18=>?_⟩⟩
 have D18:=D17.same s18
 obtain ⟨dx_e,pw_e,o_e,_⟩:=D18.ob
 refine ⟨dx_e,_,o_e,qaX _ _ (by decide +kernel) (by decide +kernel),_,_,rfl,d,pk,ws,M,_, "ranks",["h"],["family"],[.fm (Fam.hits ws.length A)],rfl,D18,rfl,(show Prt (Str.ofString "ranks h") "ranks" ["h"] ["family"] from ⟨by decide +kernel,by decide +kernel,by decide +kernel,rfl,by decide +kernel⟩),qcU (.fam l_h),.inr ⟨"family",_,rfl,by decide +kernel,.ranks hH,fun t_e H19 ht_e s19=>?_⟩⟩
 have ert:=qoT hA ht_d ht_e
 subst ert
 refine ⟨_,.inl ⟨rfl,rfl⟩,false,congrArg V.bl (by rw [decide_eq_true rfl];rfl),qcp ?_⟩
 have D19:=D18.same s19
 have f1:=s19 _ _ (s18 _ _ f1)
 have fA:=s19 _ _ (s18 _ _ fA)
 clear D17 D18 s18 s19
 (try walk_at "rd")
 obtain ⟨dx_f,pw_f,o_f,_⟩:=D19.ob
 refine ⟨dx_f,_,o_f,qaX _ _ (by decide +kernel) (by decide +kernel),by omega,_,_,rfl,d,pk,ws,M,_, "turns",[n],["family"],[.fm A],rfl,D19,rfl,qd0 (ds:=[]) (by decide +kernel) (by decide +kernel) (by decide +kernel) (by decide +kernel) hn rfl (by decide +kernel),qcU (.fam l_n),.inr ⟨"family",_,rfl,by decide +kernel,.turns hA,fun t_f H20 ht_f s20=>?_⟩⟩
 have D20:=D19.same s20
 obtain ⟨dx_g,pw_g,o_g,_⟩:=D20.ob
 refine ⟨dx_g,_,o_g,qaX _ _ (by decide +kernel) (by decide +kernel),_,_,rfl,d,pk,ws,M,_, "turns",["h"],["family"],[.fm (Fam.hits ws.length A)],rfl,D20,rfl,(show Prt (Str.ofString "turns h") "turns" ["h"] ["family"] from ⟨by decide +kernel,by decide +kernel,by decide +kernel,rfl,by decide +kernel⟩),qcU (.fam l_h),.inr ⟨"family",_,rfl,by decide +kernel,.turns hH,fun t_g H21 ht_g s21=>?_⟩⟩
 rw [qgt hA] at ht_g
 subst ht_f ht_g
 refine ⟨_,.inl ⟨rfl,rfl⟩,false,congrArg V.bl (by rw [decide_eq_true rfl];rfl),qcp ?_⟩
 have D21:=D20.same s21
 have f1:=s21 _ _ (s20 _ _ f1)
 have fA:=s21 _ _ (s20 _ _ fA)
 clear D19 D20 s20 s21
 (try walk_at "rd")
 refine ⟨p,_,rfl,SqL.of f1,fun pw hpw=>?_⟩
 rw [show some (1:Int)=some ((1:Nat):Int) from rfl,qde]
 generalize g22:upd H21 pw _=G22
 have aw:=qaw g22
 have w22:=qar g22 hpw
 have D22:=D21.same w22
 have f1:=w22 _ _ f1
 have fA:=w22 _ _ fA
 clear D21 w22 g22
 have l10:(Str.ofString "compare h ").length=10:=by decide +kernel
 have l8':(Str.ofString "compare ").length=8:=by decide +kernel
 refine ⟨pw,rfl,⟨_,SqL.of aw⟩,qh8 (xs:=(sV ws).drop 1) (fun i σ H'=>∃v10 v11 v12:Option V,σ=[some (.ref a),some (.ref pc),some (.int (ws.length:Nat)),some (.ref pA),some (.ref p),some (.ref d),some (.str n),some (.str (Tx.fT ws A)),some (.ref ph),v9,v10,v11,v12,none]∧qau G22 H') ⟨none,none,none,rfl,qau.refl _⟩ (fun i σ H' _ ⟨_,_,_,_,e⟩=>SqL.of (e _ _ aw)) ?_ ?_⟩
 · rintro i x σ H23 hx ⟨v10,v11,v12,rfl,s23⟩ N hN
   rw [List.getElem?_drop,List.getElem?_map] at hx
   cases eb:ws[1+i]? with
   | none=>rw [eb] at hx;cases hx
   | some w =>
     rw [eb] at hx
     cases hx
     have li:=(List.getElem?_eq_some_iff.mp eb).1
     have e0:ws[0]?=some (ws.getD 0 Str.empty):=by rw [List.getD_eq_getElem?_getD,List.getElem?_eq_getElem (by omega)];rfl
     generalize ws.getD 0 Str.empty=w0 at e0
     have m0:=List.mem_of_getElem? e0
     have mw:=List.mem_of_getElem? eb
     have d0:=hw.wd _ m0
     have dw:=hw.wd _ mw
     have k0:=d0.2.1
     have kw:=dw.2.1
     have nij:ws.idxOf w0≠ws.idxOf w:=fun e=>by
       have:=qq5 m0 mw e
       subst this
       have:=qrV hw.nd e0 eb
       omega
     have i0:=List.idxOf_lt_length_of_mem m0
     have iw:=List.idxOf_lt_length_of_mem mw
     obtain ⟨u1,as1,c1,c2,c3,c4,c5,c6⟩:=qjC ws.length (Fam.sayP (Fam.hits ws.length A)) (ws.idxOf w0) (ws.idxOf w)
     obtain ⟨u2,as2,b1,b2,b3,b4,b5,b6⟩:=qjC ws.length (Fam.sayP A) (ws.idxOf w0) (ws.idxOf w)
     have eu:u1=u2:=by rw [c6,b6,qfF hA nij i0 iw,qfF hA (Ne.symm nij) iw i0]
     have D23:=D22.same s23
     have f23:=s23 _ _ f1
     obtain ⟨dx23,pw23,o23,_⟩:=D23.ob
     (try walk_at "rd")
     refine ⟨dx23,_,o23,qaX _ _ (by decide +kernel) (by decide +kernel),qaT (SqL.of f23) (qc3 (i:=0) e0) ?_⟩
     refine ⟨_,rfl,by omega,by rw [Str.length_append];omega,by rw [Str.length_append,Str.length_append];omega,_,_,rfl,d,pk,ws,M,_, "compare",["h",w0,w],["family", "name", "name"],[.fm (Fam.hits ws.length A),.nu (ws.idxOf w0),.nu (ws.idxOf w)],rfl,D23,rfl,qrW d0 dw,qhz.cons (.fam l_h) (qhz.cons (.name m0) (qcU (.name mw))),.inr ⟨"family",_,rfl,by decide +kernel,.compare hH i0 iw nij c1 c2 c3 c4,fun t H24 ht s24=>?_⟩⟩
     subst ht
     obtain ⟨r1,er1⟩:=qdg c5 (as1.map (Tx.sT ws))
     refine ⟨rfl,_,_,rfl,rfl,by rw [Tx.lit_space];rfl,qnq hw c2 c3 c4,fun q1 hq1=>?_⟩
     rw [show _root_.PySem.Txt.split (wsT ws u1 as1) (Str.ofString " ")=_ from er1]
     generalize g25:upd H24 q1 _=G25
     have a25:=qaw g25
     have w25:=(s23.trans s24).trans (qar g25 hq1)
     have D25:=D22.same w25
     have f25:=w25 _ _ f1
     obtain ⟨dx25,pw25,o25,_⟩:=D25.ob
     (try walk_at "rd")
     refine ⟨dx25,_,o25,qaX _ _ (by decide +kernel) (by decide +kernel),by omega,by rw [Str.length_append];omega,qaT (SqL.of f25) (qc3 (i:=0) e0) ?_⟩
     refine ⟨_,rfl,by rw [Str.length_append,Str.length_append];omega,by rw [Str.length_append,Str.length_append,Str.length_append];omega,by rw [Str.length_append,Str.length_append,Str.length_append,Str.length_append];omega,_,_,rfl,d,pk,ws,M,_, "compare",[n,w0,w],["family", "name", "name"],[.fm A,.nu (ws.idxOf w0),.nu (ws.idxOf w)],rfl,D25,rfl,qro hn d0 dw,qhz.cons (.fam l_n) (qhz.cons (.name m0) (qcU (.name mw))),.inr ⟨"family",_,rfl,by decide +kernel,.compare hA i0 iw nij b1 b2 b3 b4,fun t H26 ht s26=>?_⟩⟩
     subst ht
     obtain ⟨r2,er2⟩:=qdg b5 (as2.map (Tx.sT ws))
     refine ⟨rfl,_,_,rfl,rfl,by rw [Tx.lit_space];rfl,qnq hw b2 b3 b4,fun q2 hq2=>?_⟩
     rw [show _root_.PySem.Txt.split (wsT ws u2 as2) (Str.ofString " ")=_ from er2]
     generalize g27:upd H26 q2 _=G27
     have a27:=qaw g27
     have w27:=s26.trans (qar g27 hq2)
     subst eu
     refine qaT (SqL.of (w27 _ _ a25)) (qc3 (i:=0) rfl) (qaT (SqL.of a27) (qc3 (i:=0) rfl) ⟨_,.inl ⟨rfl,rfl⟩,false,congrArg V.bl (by rw [decide_eq_true rfl];rfl),qcp (hN _ _ ⟨_,_,_,rfl,w25.trans w27⟩)⟩)
 rintro σ H23 ⟨v10,v11,v12,rfl,s23⟩
 have D23:=D22.same s23
 have f1:=s23 _ _ f1
 have fA:=s23 _ _ fA
 clear D22 s23
 have eE:=qkn hA
 have lh5:(Str.ofString "held ").length=5:=by decide +kernel
 have lh2:(Str.ofString " h").length=2:=by decide +kernel
 have lh7:(Str.ofString "held h ").length=7:=by decide +kernel
 (try walk_at "rd")
 obtain ⟨dx23,pw23,o23,_⟩:=D23.ob
 refine ⟨dx23,_,o23,qaX _ _ (by decide +kernel) (by decide +kernel),by omega,by rw [Str.length_append];omega,_,_,rfl,d,pk,ws,M,_, "held",[n, "h"],["family", "family"],[.fm A,.fm (Fam.hits ws.length A)],rfl,D23,rfl,qqH hn,qhz.cons (.fam l_n) (qcU (.fam l_h)),.inr ⟨"family",_,rfl,by decide +kernel,.held (w := "each") (as:=[]) hA hH (qjD eE) (by decide +kernel) (by decide) (fun x hx=>by cases hx),fun t H24 ht s24=>?_⟩⟩
 subst ht
 refine ⟨_,.inl ⟨rfl,rfl⟩,false,congrArg V.bl (by rw [show wsT ws (Str.ofString "each") []=Str.ofString "each" from rfl];decide +kernel),qcp ?_⟩
 have D24:=D23.same s24
 obtain ⟨dx24,pw24,o24,_⟩:=D24.ob
 refine ⟨dx24,_,o24,qaX _ _ (by decide +kernel) (by decide +kernel),by omega,_,_,rfl,d,pk,ws,M,_, "held",["h",n],["family", "family"],[.fm (Fam.hits ws.length A),.fm A],rfl,D24,rfl,qd0 (ds:=["h"]) (by decide +kernel) (by decide +kernel) (by decide +kernel) (by decide +kernel) hn rfl (by decide +kernel),qhz.cons (.fam l_h) (qcU (.fam l_n)),.inr ⟨"family",_,rfl,by decide +kernel,.held (w := "each") (as:=[]) hH hA (qjD (Fam.each_turn eE)) (by decide +kernel) (by decide) (fun x hx=>by cases hx),fun t H25 ht s25=>?_⟩⟩
 subst ht
 refine ⟨_,.inl ⟨rfl,rfl⟩,false,congrArg V.bl (by rw [show wsT ws (Str.ofString "each") []=Str.ofString "each" from rfl];decide +kernel),qcp ?_⟩
 have D25:=D24.same s25
 have f1:=s25 _ _ (s24 _ _ f1)
 have fA:=s25 _ _ (s24 _ _ fA)
 clear D23 D24 s24 s25
 (try walk_at "rd")
 have lA:=hA.few
 refine ⟨⟨_,SqL.of fA⟩,qcX (fs:=A) (fun a=>decide (A.filter (fun b=>decide (b≠a∧a&&&b=b))=[])) (fun a => .int (a:Nat)) (SqL.of fA) (by omega) (fun x hx H2 s2 R R' r1 r2=>?_) fun H26 p26 s26 hp26=>?_⟩
 · (try walk_at "rd")
   refine ⟨⟨_,SqL.of (s2 _ _ fA)⟩,qcX (fs:=A) (fun b=>decide (b≠x∧x&&&b=b)) (fun b => .int (b:Nat)) (SqL.of (s2 _ _ fA)) (by omega) (fun b hb H3 s3 R2 R2' u1 u2=>?_) fun H3 p3 s3 hp3=>?_⟩
   · (try walk_at "rd")
     by_cases e1:b=x
     · exact ⟨false,by rw [decide_eq_true (by omega)];rfl,qcp (u2 (decide_eq_false fun h=>h.1 e1) _ (qau.refl _))⟩
     · refine ⟨true,by rw [decide_eq_false (by omega)];rfl,qeT ?_⟩
       rw [qb3]
       by_cases e2:x&&&b=b
       · rw [if_pos (by rw [e2])]
         exact u1 (decide_eq_true ⟨e1,e2⟩) _ (qau.refl _)
       · rw [if_neg (by omega)]
         exact u2 (decide_eq_false fun h=>e2 h.2) _ (qau.refl _)
   · rw [qfm]
     refine ⟨qaC (by simp),fun p4 hp4=>?_⟩
     generalize g3:upd H3 p3 _=G3 at hp4 ⊢
     have a3:=qaw g3
     have w3:=s3.trans (qar g3 hp3)
     generalize g4:upd G3 p4 _=G4
     have a4:=qaw g4
     have w4:=w3.trans (qar g4 hp4)
     refine qg5 (SqL.of (qar g4 hp4 _ _ a3)) (SqL.of a4) (qc4 _) rfl ?_
     rw [show ([]:List V)=nV [] from rfl,qgk]
     by_cases e:A.filter (fun b=>decide (b≠x∧x&&&b=b))=[]
     · exact ⟨true,by rw [decide_eq_true e],qeT (r1 (decide_eq_true e) _ w4)⟩
     · exact ⟨false,by rw [decide_eq_false e],qcp (r2 (decide_eq_false e) _ w4)⟩
 rw [qfm,qmN hA.rise]
 generalize g27:upd H26 p26 _=G27
 have fS:=qaw g27
 have w27:=s26.trans (qar g27 hp26)
 have D27:=D25.same w27
 have f1:=w27 _ _ f1
 clear D25 w27 s26 g27
 obtain ⟨kv27,c27,_⟩:=D27.dc
 have nSk:p26≠pk:=fun e=>by rw [e,c27] at fS;cases fS
 obtain ⟨dx27,pw27,o27,_⟩:=D27.ob
 refine ⟨dx27,_,o27,qaX _ _ (by decide +kernel) (by decide +kernel),_,_,rfl,d,pk,ws,M,_, "hits",["b", "h"],["new", "family"],[.nm "b",.fm (Fam.hits ws.length A)],rfl,D27,rfl,(show Prt (Str.ofString "hits b h") "hits" ["b", "h"] ["new", "family"] from ⟨by decide +kernel,by decide +kernel,by decide +kernel,rfl,by decide +kernel⟩),qhz.cons (.new wb) (qcU (.fam l_h)),.inl ⟨"b",[.fm (Fam.hits ws.length A)],_,rfl,rfl,.hits hH,qdQ h8 _,.inr (by omega),fun H28 s28 D28=>⟨_,.inl ⟨rfl,rfl⟩,true,congrArg V.bl (decide_eq_true rfl),qeT ?_⟩⟩⟩
 have l_b:(qhH M "b" (Fam.hits ws.length (Fam.hits ws.length A))).lookup ("b" : Str)=some (Fam.hits ws.length (Fam.hits ws.length A)):=by rw [qbq,if_pos rfl]
 obtain ⟨dx28,pw28,o28,_⟩:=D28.ob
 refine ⟨dx28,_,o28,qaX _ _ (by decide +kernel) (by decide +kernel),_,_,rfl,d,pk,ws,_,_, "show",["b"],["family"],[.fm (Fam.hits ws.length (Fam.hits ws.length A))],rfl,D28,rfl,(show Prt (Str.ofString "show b") "show" ["b"] ["family"] from ⟨by decide +kernel,by decide +kernel,by decide +kernel,rfl,by decide +kernel⟩),qcU (.fam l_b),.inr ⟨"family",_,rfl,by decide +kernel,.show (qdQ h8 _),fun t H29 ht s29=>?_⟩⟩
 subst ht
 have hm:=qdQ h8 (Fam.hits ws.length A)
 rw [Fam.hits_hits hA.rise hA.lt] at hm ⊢
 refine ⟨_,_,rfl,p,p26,ws,_,rfl,s29 _ _ (s28 _ _ f1 npk),hw,rfl,s29 _ _ (s28 _ _ fS nSk),hm.lt,hm.few,fun H30 s30=>⟨_,.inl ⟨rfl,rfl⟩,?_⟩⟩
 rw [decide_eq_true rfl]
 exact q _
end
theorem all_mk {l:W.OpenLaw} {w:World} {K:W.Frag} {h:Heap} {mg:Str→Option Value} {fa:Addr} (X:K.In h) (G:h.Ns mainGlobals mg) (hfa:mg "law" = some (.ref fa))
   {cD aW:Addr}
   {f_35:Addr} {od_35 an_35:Option Addr} {sl_35:Array (Option Value)} {oc_35 kV_35 dc_35 pm_35 cd_35 ct_35:Value}
   {f_19:Addr} {od_19 an_19:Option Addr} {sl_19:Array (Option Value)} {oc_19 kV_19 dc_19 pm_19 cd_19 ct_19:Value}
   {f_13:Addr} {od_13 an_13:Option Addr} {sl_13:Array (Option Value)} {oc_13 kV_13 dc_13 pm_13 cd_13 ct_13:Value}
   {f_20:Addr} {od_20 an_20:Option Addr} {sl_20:Array (Option Value)} {oc_20 kV_20 dc_20 pm_20 cd_20 ct_20:Value}
   {f_21:Addr} {od_21 an_21:Option Addr} {sl_21:Array (Option Value)} {oc_21 kV_21 dc_21 pm_21 cd_21 ct_21:Value}
   {f_06:Addr} {od_06 an_06:Option Addr} {sl_06:Array (Option Value)} {oc_06 kV_06 dc_06 pm_06 cd_06 ct_06:Value}
   {f_28:Addr} {od_28 an_28:Option Addr} {sl_28:Array (Option Value)} {oc_28 kV_28 dc_28 pm_28 cd_28 ct_28:Value}
   {f_36:Addr} {od_36 an_36:Option Addr} {sl_36:Array (Option Value)} {oc_36 kV_36 dc_36 pm_36 cd_36 ct_36:Value}
   {f_29:Addr} {od_29 an_29:Option Addr} {sl_29:Array (Option Value)} {oc_29 kV_29 dc_29 pm_29 cd_29 ct_29:Value}
   {f_22:Addr} {od_22 an_22:Option Addr} {sl_22:Array (Option Value)} {oc_22 kV_22 dc_22 pm_22 cd_22 ct_22:Value}
   {f_37:Addr} {od_37 an_37:Option Addr} {sl_37:Array (Option Value)} {oc_37 kV_37 dc_37 pm_37 cd_37 ct_37:Value}
   {f_48:Addr} {od_48 an_48:Option Addr} {sl_48:Array (Option Value)} {oc_48 kV_48 dc_48 pm_48 cd_48 ct_48:Value}
   {f_30:Addr} {od_30 an_30:Option Addr} {sl_30:Array (Option Value)} {oc_30 kV_30 dc_30 pm_30 cd_30 ct_30:Value}
   {f_38:Addr} {od_38 an_38:Option Addr} {sl_38:Array (Option Value)} {oc_38 kV_38 dc_38 pm_38 cd_38 ct_38:Value}
   {f_49:Addr} {od_49 an_49:Option Addr} {sl_49:Array (Option Value)} {oc_49 kV_49 dc_49 pm_49 cd_49 ct_49:Value}
   {f_50:Addr} {od_50 an_50:Option Addr} {sl_50:Array (Option Value)} {oc_50 kV_50 dc_50 pm_50 cd_50 ct_50:Value}
   {f_47:Addr} {od_47 an_47:Option Addr} {sl_47:Array (Option Value)} {oc_47 kV_47 dc_47 pm_47 cd_47 ct_47:Value}
   {f_23:Addr} {od_23 an_23:Option Addr} {sl_23:Array (Option Value)} {oc_23 kV_23 dc_23 pm_23 cd_23 ct_23:Value}
   {f_31:Addr} {od_31 an_31:Option Addr} {sl_31:Array (Option Value)} {oc_31 kV_31 dc_31 pm_31 cd_31 ct_31:Value}
   {f_39:Addr} {od_39 an_39:Option Addr} {sl_39:Array (Option Value)} {oc_39 kV_39 dc_39 pm_39 cd_39 ct_39:Value}
   {f_14:Addr} {od_14 an_14:Option Addr} {sl_14:Array (Option Value)} {oc_14 kV_14 dc_14 pm_14 cd_14 ct_14:Value}
   {f_40:Addr} {od_40 an_40:Option Addr} {sl_40:Array (Option Value)} {oc_40 kV_40 dc_40 pm_40 cd_40 ct_40:Value}
   {f_15:Addr} {od_15 an_15:Option Addr} {sl_15:Array (Option Value)} {oc_15 kV_15 dc_15 pm_15 cd_15 ct_15:Value}
   {f_54:Addr} {od_54 an_54:Option Addr} {sl_54:Array (Option Value)} {oc_54 kV_54 dc_54 pm_54 cd_54 ct_54:Value}
   {f_55:Addr} {od_55 an_55:Option Addr} {sl_55:Array (Option Value)} {oc_55 kV_55 dc_55 pm_55 cd_55 ct_55:Value}
   {f_60:Addr} {od_60 an_60:Option Addr} {sl_60:Array (Option Value)} {oc_60 kV_60 dc_60 pm_60 cd_60 ct_60:Value}
   {f_61:Addr} {od_61 an_61:Option Addr} {sl_61:Array (Option Value)} {oc_61 kV_61 dc_61 pm_61 cd_61 ct_61:Value}
   {f_56:Addr} {od_56 an_56:Option Addr} {sl_56:Array (Option Value)} {oc_56 kV_56 dc_56 pm_56 cd_56 ct_56:Value}
   {f_57:Addr} {od_57 an_57:Option Addr} {sl_57:Array (Option Value)} {oc_57 kV_57 dc_57 pm_57 cd_57 ct_57:Value}
   {f_10:Addr} {od_10 an_10:Option Addr} {sl_10:Array (Option Value)} {oc_10 kV_10 dc_10 pm_10 cd_10 ct_10:Value}
   {f_62:Addr} {od_62 an_62:Option Addr} {sl_62:Array (Option Value)} {oc_62 kV_62 dc_62 pm_62 cd_62 ct_62:Value}
   {f_32:Addr} {od_32 an_32:Option Addr} {sl_32:Array (Option Value)} {oc_32 kV_32 dc_32 pm_32 cd_32 ct_32:Value}
   {f_24:Addr} {od_24 an_24:Option Addr} {sl_24:Array (Option Value)} {oc_24 kV_24 dc_24 pm_24 cd_24 ct_24:Value}
   {f_51:Addr} {od_51 an_51:Option Addr} {sl_51:Array (Option Value)} {oc_51 kV_51 dc_51 pm_51 cd_51 ct_51:Value}
   {f_63:Addr} {od_63 an_63:Option Addr} {sl_63:Array (Option Value)} {oc_63 kV_63 dc_63 pm_63 cd_63 ct_63:Value}
   {f_00:Addr} {od_00 an_00:Option Addr} {sl_00:Array (Option Value)} {oc_00 kV_00 dc_00 pm_00 cd_00 ct_00:Value}
   {f_52:Addr} {od_52 an_52:Option Addr} {sl_52:Array (Option Value)} {oc_52 kV_52 dc_52 pm_52 cd_52 ct_52:Value}
   {f_04:Addr} {od_04 an_04:Option Addr} {sl_04:Array (Option Value)} {oc_04 kV_04 dc_04 pm_04 cd_04 ct_04:Value}
   {f_64:Addr} {od_64 an_64:Option Addr} {sl_64:Array (Option Value)} {oc_64 kV_64 dc_64 pm_64 cd_64 ct_64:Value}
   {f_41:Addr} {od_41 an_41:Option Addr} {sl_41:Array (Option Value)} {oc_41 kV_41 dc_41 pm_41 cd_41 ct_41:Value}
   {f_07:Addr} {od_07 an_07:Option Addr} {sl_07:Array (Option Value)} {oc_07 kV_07 dc_07 pm_07 cd_07 ct_07:Value}
   {f_16:Addr} {od_16 an_16:Option Addr} {sl_16:Array (Option Value)} {oc_16 kV_16 dc_16 pm_16 cd_16 ct_16:Value}
   {f_42:Addr} {od_42 an_42:Option Addr} {sl_42:Array (Option Value)} {oc_42 kV_42 dc_42 pm_42 cd_42 ct_42:Value}
   {f_33:Addr} {od_33 an_33:Option Addr} {sl_33:Array (Option Value)} {oc_33 kV_33 dc_33 pm_33 cd_33 ct_33:Value}
   {f_58:Addr} {od_58 an_58:Option Addr} {sl_58:Array (Option Value)} {oc_58 kV_58 dc_58 pm_58 cd_58 ct_58:Value}
   {f_11:Addr} {od_11 an_11:Option Addr} {sl_11:Array (Option Value)} {oc_11 kV_11 dc_11 pm_11 cd_11 ct_11:Value}
   {f_01:Addr} {od_01 an_01:Option Addr} {sl_01:Array (Option Value)} {oc_01 kV_01 dc_01 pm_01 cd_01 ct_01:Value}
   {f_17:Addr} {od_17 an_17:Option Addr} {sl_17:Array (Option Value)} {oc_17 kV_17 dc_17 pm_17 cd_17 ct_17:Value}
   {f_53:Addr} {od_53 an_53:Option Addr} {sl_53:Array (Option Value)} {oc_53 kV_53 dc_53 pm_53 cd_53 ct_53:Value}
   {f_59:Addr} {od_59 an_59:Option Addr} {sl_59:Array (Option Value)} {oc_59 kV_59 dc_59 pm_59 cd_59 ct_59:Value}
   {f_25:Addr} {od_25 an_25:Option Addr} {sl_25:Array (Option Value)} {oc_25 kV_25 dc_25 pm_25 cd_25 ct_25:Value}
   {f_26:Addr} {od_26 an_26:Option Addr} {sl_26:Array (Option Value)} {oc_26 kV_26 dc_26 pm_26 cd_26 ct_26:Value}
   {f_27:Addr} {od_27 an_27:Option Addr} {sl_27:Array (Option Value)} {oc_27 kV_27 dc_27 pm_27 cd_27 ct_27:Value}
   {f_12:Addr} {od_12 an_12:Option Addr} {sl_12:Array (Option Value)} {oc_12 kV_12 dc_12 pm_12 cd_12 ct_12:Value}
   {f_03:Addr} {od_03 an_03:Option Addr} {sl_03:Array (Option Value)} {oc_03 kV_03 dc_03 pm_03 cd_03 ct_03:Value}
   {f_43:Addr} {od_43 an_43:Option Addr} {sl_43:Array (Option Value)} {oc_43 kV_43 dc_43 pm_43 cd_43 ct_43:Value}
   {f_44:Addr} {od_44 an_44:Option Addr} {sl_44:Array (Option Value)} {oc_44 kV_44 dc_44 pm_44 cd_44 ct_44:Value}
   {f_08:Addr} {od_08 an_08:Option Addr} {sl_08:Array (Option Value)} {oc_08 kV_08 dc_08 pm_08 cd_08 ct_08:Value}
   {f_05:Addr} {od_05 an_05:Option Addr} {sl_05:Array (Option Value)} {oc_05 kV_05 dc_05 pm_05 cd_05 ct_05:Value}
   {f_02:Addr} {od_02 an_02:Option Addr} {sl_02:Array (Option Value)} {oc_02 kV_02 dc_02 pm_02 cd_02 ct_02:Value}
   {f_09:Addr} {od_09 an_09:Option Addr} {sl_09:Array (Option Value)} {oc_09 kV_09 dc_09 pm_09 cd_09 ct_09:Value}
   {f_65:Addr} {od_65 an_65:Option Addr} {sl_65:Array (Option Value)} {oc_65 kV_65 dc_65 pm_65 cd_65 ct_65:Value}
   {f_45:Addr} {od_45 an_45:Option Addr} {sl_45:Array (Option Value)} {oc_45 kV_45 dc_45 pm_45 cd_45 ct_45:Value}
   {f_46:Addr} {od_46 an_46:Option Addr} {sl_46:Array (Option Value)} {oc_46 kV_46 dc_46 pm_46 cd_46 ct_46:Value}
   {f_18:Addr} {od_18 an_18:Option Addr} {sl_18:Array (Option Value)} {oc_18 kV_18 dc_18 pm_18 cd_18 ct_18:Value}
   {f_34:Addr} {od_34 an_34:Option Addr} {sl_34:Array (Option Value)} {oc_34 kV_34 dc_34 pm_34 cd_34 ct_34:Value}
   {f_law:Addr} {od_law an_law:Option Addr} {sl_law:Array (Option Value)} {oc_law kV_law dc_law pm_law cd_law ct_law:Value}
   (a_35:W.nsIn K mainGlobals "is_whole" = some (some (.ref f_35))) (l_35:K.lookup f_35=some ⟨oc_35,od_35,.func (W.fnOf "is_whole" "is_whole" (qam qch) (qal qch) (qad qch) .none kV_35 dc_35 pm_35 an_35 cd_35 ct_35),sl_35⟩) (c_35:W.codeIn K cd_35 "is_whole" = true) (k_35:W.keepIn K (.ref f_35)=true)
   (a_19:W.nsIn K mainGlobals "_law_cells" = some (some (.ref f_19))) (l_19:K.lookup f_19=some ⟨oc_19,od_19,.func (W.fnOf "_law_cells" "_law_cells" (qam qbu) (qal qbu) (qad qbu) .none kV_19 dc_19 pm_19 an_19 cd_19 ct_19),sl_19⟩) (c_19:W.codeIn K cd_19 "_law_cells" = true) (k_19:W.keepIn K (.ref f_19)=true)
   (a_13:W.nsIn K mainGlobals "_law_family" = some (some (.ref f_13))) (l_13:K.lookup f_13=some ⟨oc_13,od_13,.func (W.fnOf "_law_family" "_law_family" (qam qbg) (qal qbg) (qad qbg) .none kV_13 dc_13 pm_13 an_13 cd_13 ct_13),sl_13⟩) (c_13:W.codeIn K cd_13 "_law_family" = true) (k_13:W.keepIn K (.ref f_13)=true)
   (a_20:W.nsIn K mainGlobals "_law_drawn" = some (some (.ref f_20))) (l_20:K.lookup f_20=some ⟨oc_20,od_20,.func (W.fnOf "_law_drawn" "_law_drawn" (qam qbw) (qal qbw) (qad qbw) .none kV_20 dc_20 pm_20 an_20 cd_20 ct_20),sl_20⟩) (c_20:W.codeIn K cd_20 "_law_drawn" = true) (k_20:W.keepIn K (.ref f_20)=true)
   (a_21:W.nsIn K mainGlobals "_law_words" = some (some (.ref f_21))) (l_21:K.lookup f_21=some ⟨oc_21,od_21,.func (W.fnOf "_law_words" "_law_words" (qam qbA) (qal qbA) (qad qbA) .none kV_21 dc_21 pm_21 an_21 cd_21 ct_21),sl_21⟩) (c_21:W.codeIn K cd_21 "_law_words" = true) (k_21:W.keepIn K (.ref f_21)=true)
   (a_06:W.nsIn K mainGlobals "_law_set_text" = some (some (.ref f_06))) (l_06:K.lookup f_06=some ⟨oc_06,od_06,.func (W.fnOf "_law_set_text" "_law_set_text" (qam qa3) (qal qa3) (qad qa3) .none kV_06 dc_06 pm_06 an_06 cd_06 ct_06),sl_06⟩) (c_06:W.codeIn K cd_06 "_law_set_text" = true) (k_06:W.keepIn K (.ref f_06)=true)
   (a_28:W.nsIn K mainGlobals "_law_text" = some (some (.ref f_28))) (l_28:K.lookup f_28=some ⟨oc_28,od_28,.func (W.fnOf "_law_text" "_law_text" (qam qbR) (qal qbR) (qad qbR) .none kV_28 dc_28 pm_28 an_28 cd_28 ct_28),sl_28⟩) (c_28:W.codeIn K cd_28 "_law_text" = true) (k_28:W.keepIn K (.ref f_28)=true)
   (a_36:W.nsIn K mainGlobals "_law_set" = some (some (.ref f_36))) (l_36:K.lookup f_36=some ⟨oc_36,od_36,.func (W.fnOf "_law_set" "_law_set" (qam qcd) (qal qcd) (qad qcd) .none kV_36 dc_36 pm_36 an_36 cd_36 ct_36),sl_36⟩) (c_36:W.codeIn K cd_36 "_law_set" = true) (k_36:W.keepIn K (.ref f_36)=true)
   (a_29:W.nsIn K mainGlobals "_law_read" = some (some (.ref f_29))) (l_29:K.lookup f_29=some ⟨oc_29,od_29,.func (W.fnOf "_law_read" "_law_read" (qam qbS) (qal qbS) (qad qbS) .none kV_29 dc_29 pm_29 an_29 cd_29 ct_29),sl_29⟩) (c_29:W.codeIn K cd_29 "_law_read" = true) (k_29:W.keepIn K (.ref f_29)=true)
   (a_22:W.nsIn K mainGlobals "_law_meets" = some (some (.ref f_22))) (l_22:K.lookup f_22=some ⟨oc_22,od_22,.func (W.fnOf "_law_meets" "_law_meets" (qam qbs) (qal qbs) (qad qbs) .none kV_22 dc_22 pm_22 an_22 cd_22 ct_22),sl_22⟩) (c_22:W.codeIn K cd_22 "_law_meets" = true) (k_22:W.keepIn K (.ref f_22)=true)
   (a_37:W.nsIn K mainGlobals "_law_due" = some (some (.ref f_37))) (l_37:K.lookup f_37=some ⟨oc_37,od_37,.func (W.fnOf "_law_due" "_law_due" (qam qcb) (qal qcb) (qad qcb) .none kV_37 dc_37 pm_37 an_37 cd_37 ct_37),sl_37⟩) (c_37:W.codeIn K cd_37 "_law_due" = true) (k_37:W.keepIn K (.ref f_37)=true)
   (a_48:W.nsIn K mainGlobals "is_set" = some (some (.ref f_48))) (l_48:K.lookup f_48=some ⟨oc_48,od_48,.func (W.fnOf "is_set" "is_set" (qam qdm) (qal qdm) (qad qdm) .none kV_48 dc_48 pm_48 an_48 cd_48 ct_48),sl_48⟩) (c_48:W.codeIn K cd_48 "is_set" = true) (k_48:W.keepIn K (.ref f_48)=true)
   (a_30:W.nsIn K mainGlobals "is_family" = some (some (.ref f_30))) (l_30:K.lookup f_30=some ⟨oc_30,od_30,.func (W.fnOf "is_family" "is_family" (qam qbN) (qal qbN) (qad qbN) .none kV_30 dc_30 pm_30 an_30 cd_30 ct_30),sl_30⟩) (c_30:W.codeIn K cd_30 "is_family" = true) (k_30:W.keepIn K (.ref f_30)=true)
   (a_38:W.nsIn K mainGlobals "names_in" = some (some (.ref f_38))) (l_38:K.lookup f_38=some ⟨oc_38,od_38,.func (W.fnOf "names_in" "names_in" (qam qca) (qal qca) (qad qca) .none kV_38 dc_38 pm_38 an_38 cd_38 ct_38),sl_38⟩) (c_38:W.codeIn K cd_38 "names_in" = true) (k_38:W.keepIn K (.ref f_38)=true)
   (a_49:W.nsIn K mainGlobals "set_of" = some (some (.ref f_49))) (l_49:K.lookup f_49=some ⟨oc_49,od_49,.func (W.fnOf "set_of" "set_of" (qam qdl) (qal qdl) (qad qdl) .none kV_49 dc_49 pm_49 an_49 cd_49 ct_49),sl_49⟩) (c_49:W.codeIn K cd_49 "set_of" = true) (k_49:W.keepIn K (.ref f_49)=true)
   (a_50:W.nsIn K mainGlobals "parted" = some (some (.ref f_50))) (l_50:K.lookup f_50=some ⟨oc_50,od_50,.func (W.fnOf "parted" "parted" (qam qdh) (qal qdh) (qad qdh) .none kV_50 dc_50 pm_50 an_50 cd_50 ct_50),sl_50⟩) (c_50:W.codeIn K cd_50 "parted" = true) (k_50:W.keepIn K (.ref f_50)=true)
   (a_47:W.nsIn K mainGlobals "is_word" = some (some (.ref f_47))) (l_47:K.lookup f_47=some ⟨oc_47,od_47,.func (W.fnOf "is_word" "is_word" (qam qcC) (qal qcC) (qad qcC) .none kV_47 dc_47 pm_47 an_47 cd_47 ct_47),sl_47⟩) (c_47:W.codeIn K cd_47 "is_word" = true) (k_47:W.keepIn K (.ref f_47)=true)
   (a_23:W.nsIn K mainGlobals "read_names" = some (some (.ref f_23))) (l_23:K.lookup f_23=some ⟨oc_23,od_23,.func (W.fnOf "read_names" "read_names" (qam qbv) (qal qbv) (qad qbv) .none kV_23 dc_23 pm_23 an_23 cd_23 ct_23),sl_23⟩) (c_23:W.codeIn K cd_23 "read_names" = true) (k_23:W.keepIn K (.ref f_23)=true)
   (a_31:W.nsIn K mainGlobals "read_name" = some (some (.ref f_31))) (l_31:K.lookup f_31=some ⟨oc_31,od_31,.func (W.fnOf "read_name" "read_name" (qam qbK) (qal qbK) (qad qbK) .none kV_31 dc_31 pm_31 an_31 cd_31 ct_31),sl_31⟩) (c_31:W.codeIn K cd_31 "read_name" = true) (k_31:W.keepIn K (.ref f_31)=true)
   (a_39:W.nsIn K mainGlobals "show_set" = some (some (.ref f_39))) (l_39:K.lookup f_39=some ⟨oc_39,od_39,.func (W.fnOf "show_set" "show_set" (qam qb6) (qal qb6) (qad qb6) .none kV_39 dc_39 pm_39 an_39 cd_39 ct_39),sl_39⟩) (c_39:W.codeIn K cd_39 "show_set" = true) (k_39:W.keepIn K (.ref f_39)=true)
   (a_14:W.nsIn K mainGlobals "show_family" = some (some (.ref f_14))) (l_14:K.lookup f_14=some ⟨oc_14,od_14,.func (W.fnOf "show_family" "show_family" (qam qbk) (qal qbk) (qad qbk) .none kV_14 dc_14 pm_14 an_14 cd_14 ct_14),sl_14⟩) (c_14:W.codeIn K cd_14 "show_family" = true) (k_14:W.keepIn K (.ref f_14)=true)
   (a_40:W.nsIn K mainGlobals "read_set" = some (some (.ref f_40))) (l_40:K.lookup f_40=some ⟨oc_40,od_40,.func (W.fnOf "read_set" "read_set" (qam qb7) (qal qb7) (qad qb7) .none kV_40 dc_40 pm_40 an_40 cd_40 ct_40),sl_40⟩) (c_40:W.codeIn K cd_40 "read_set" = true) (k_40:W.keepIn K (.ref f_40)=true)
   (a_15:W.nsIn K mainGlobals "read_family" = some (some (.ref f_15))) (l_15:K.lookup f_15=some ⟨oc_15,od_15,.func (W.fnOf "read_family" "read_family" (qam qbf) (qal qbf) (qad qbf) .none kV_15 dc_15 pm_15 an_15 cd_15 ct_15),sl_15⟩) (c_15:W.codeIn K cd_15 "read_family" = true) (k_15:W.keepIn K (.ref f_15)=true)
   (a_54:W.nsIn K mainGlobals "holds" = some (some (.ref f_54))) (l_54:K.lookup f_54=some ⟨oc_54,od_54,.func (W.fnOf "holds" "holds" (qam qen) (qal qen) (qad qen) .none kV_54 dc_54 pm_54 an_54 cd_54 ct_54),sl_54⟩) (c_54:W.codeIn K cd_54 "holds" = true) (k_54:W.keepIn K (.ref f_54)=true)
   (a_55:W.nsIn K mainGlobals "meets" = some (some (.ref f_55))) (l_55:K.lookup f_55=some ⟨oc_55,od_55,.func (W.fnOf "meets" "meets" (qam qei) (qal qei) (qad qei) .none kV_55 dc_55 pm_55 an_55 cd_55 ct_55),sl_55⟩) (c_55:W.codeIn K cd_55 "meets" = true) (k_55:W.keepIn K (.ref f_55)=true)
   (a_60:W.nsIn K mainGlobals "rest" = some (some (.ref f_60))) (l_60:K.lookup f_60=some ⟨oc_60,od_60,.func (W.fnOf "rest" "rest" (qam qgD) (qal qgD) (qad qgD) .none kV_60 dc_60 pm_60 an_60 cd_60 ct_60),sl_60⟩) (c_60:W.codeIn K cd_60 "rest" = true) (k_60:W.keepIn K (.ref f_60)=true)
   (a_61:W.nsIn K mainGlobals "says" = some (some (.ref f_61))) (l_61:K.lookup f_61=some ⟨oc_61,od_61,.func (W.fnOf "says" "says" (qam qgu) (qal qgu) (qad qgu) .none kV_61 dc_61 pm_61 an_61 cd_61 ct_61),sl_61⟩) (c_61:W.codeIn K cd_61 "says" = true) (k_61:W.keepIn K (.ref f_61)=true)
   (a_56:W.nsIn K mainGlobals "least" = some (some (.ref f_56))) (l_56:K.lookup f_56=some ⟨oc_56,od_56,.func (W.fnOf "least" "least" (qam qef) (qal qef) (qad qef) .none kV_56 dc_56 pm_56 an_56 cd_56 ct_56),sl_56⟩) (c_56:W.codeIn K cd_56 "least" = true) (k_56:W.keepIn K (.ref f_56)=true)
   (a_57:W.nsIn K mainGlobals "rests" = some (some (.ref f_57))) (l_57:K.lookup f_57=some ⟨oc_57,od_57,.func (W.fnOf "rests" "rests" (qam qeo) (qal qeo) (qad qeo) .none kV_57 dc_57 pm_57 an_57 cd_57 ct_57),sl_57⟩) (c_57:W.codeIn K cd_57 "rests" = true) (k_57:W.keepIn K (.ref f_57)=true)
   (a_10:W.nsIn K mainGlobals "first_missed" = some (some (.ref f_10))) (l_10:K.lookup f_10=some ⟨oc_10,od_10,.func (W.fnOf "first_missed" "first_missed" (qam qbb) (qal qbb) (qad qbb) .none kV_10 dc_10 pm_10 an_10 cd_10 ct_10),sl_10⟩) (c_10:W.codeIn K cd_10 "first_missed" = true) (k_10:W.keepIn K (.ref f_10)=true)
   (a_62:W.nsIn K mainGlobals "hits" = some (some (.ref f_62))) (l_62:K.lookup f_62=some ⟨oc_62,od_62,.func (W.fnOf "hits" "hits" (qam qgv) (qal qgv) (qad qgv) .none kV_62 dc_62 pm_62 an_62 cd_62 ct_62),sl_62⟩) (c_62:W.codeIn K cd_62 "hits" = true) (k_62:W.keepIn K (.ref f_62)=true)
   (a_32:W.nsIn K mainGlobals "always_in" = some (some (.ref f_32))) (l_32:K.lookup f_32=some ⟨oc_32,od_32,.func (W.fnOf "always_in" "always_in" (qam qbQ) (qal qbQ) (qad qbQ) .none kV_32 dc_32 pm_32 an_32 cd_32 ct_32),sl_32⟩) (c_32:W.codeIn K cd_32 "always_in" = true) (k_32:W.keepIn K (.ref f_32)=true)
   (a_24:W.nsIn K mainGlobals "always_out" = some (some (.ref f_24))) (l_24:K.lookup f_24=some ⟨oc_24,od_24,.func (W.fnOf "always_out" "always_out" (qam qby) (qal qby) (qad qby) .none kV_24 dc_24 pm_24 an_24 cd_24 ct_24),sl_24⟩) (c_24:W.codeIn K cd_24 "always_out" = true) (k_24:W.keepIn K (.ref f_24)=true)
   (a_51:W.nsIn K mainGlobals "either" = some (some (.ref f_51))) (l_51:K.lookup f_51=some ⟨oc_51,od_51,.func (W.fnOf "either" "either" (qam qdf) (qal qdf) (qad qdf) .none kV_51 dc_51 pm_51 an_51 cd_51 ct_51),sl_51⟩) (c_51:W.codeIn K cd_51 "either" = true) (k_51:W.keepIn K (.ref f_51)=true)
   (a_63:W.nsIn K mainGlobals "both" = some (some (.ref f_63))) (l_63:K.lookup f_63=some ⟨oc_63,od_63,.func (W.fnOf "both" "both" (qam qgC) (qal qgC) (qad qgC) .none kV_63 dc_63 pm_63 an_63 cd_63 ct_63),sl_63⟩) (c_63:W.codeIn K cd_63 "both" = true) (k_63:W.keepIn K (.ref f_63)=true)
   (a_00:W.nsIn K mainGlobals "first_met_by_alone" = some (some (.ref f_00))) (l_00:K.lookup f_00=some ⟨oc_00,od_00,.func (W.fnOf "first_met_by_alone" "first_met_by_alone" (qam qaH) (qal qaH) (qad qaH) .none kV_00 dc_00 pm_00 an_00 cd_00 ct_00),sl_00⟩) (c_00:W.codeIn K cd_00 "first_met_by_alone" = true) (k_00:W.keepIn K (.ref f_00)=true)
   (a_52:W.nsIn K mainGlobals "looked" = some (some (.ref f_52))) (l_52:K.lookup f_52=some ⟨oc_52,od_52,.func (W.fnOf "looked" "looked" (qam qdn) (qal qdn) (qad qdn) .none kV_52 dc_52 pm_52 an_52 cd_52 ct_52),sl_52⟩) (c_52:W.codeIn K cd_52 "looked" = true) (k_52:W.keepIn K (.ref f_52)=true)
   (a_04:W.nsIn K mainGlobals "first_left_out" = some (some (.ref f_04))) (l_04:K.lookup f_04=some ⟨oc_04,od_04,.func (W.fnOf "first_left_out" "first_left_out" (qam qaV) (qal qaV) (qad qaV) .none kV_04 dc_04 pm_04 an_04 cd_04 ct_04),sl_04⟩) (c_04:W.codeIn K cd_04 "first_left_out" = true) (k_04:W.keepIn K (.ref f_04)=true)
   (a_64:W.nsIn K mainGlobals "held" = some (some (.ref f_64))) (l_64:K.lookup f_64=some ⟨oc_64,od_64,.func (W.fnOf "held" "held" (qam qgo) (qal qgo) (qad qgo) .none kV_64 dc_64 pm_64 an_64 cd_64 ct_64),sl_64⟩) (c_64:W.codeIn K cd_64 "held" = true) (k_64:W.keepIn K (.ref f_64)=true)
   (a_41:W.nsIn K mainGlobals "table_of" = some (some (.ref f_41))) (l_41:K.lookup f_41=some ⟨oc_41,od_41,.func (W.fnOf "table_of" "table_of" (qam qce) (qal qce) (qad qce) .none kV_41 dc_41 pm_41 an_41 cd_41 ct_41),sl_41⟩) (c_41:W.codeIn K cd_41 "table_of" = true) (k_41:W.keepIn K (.ref f_41)=true)
   (a_07:W.nsIn K mainGlobals "first_parting" = some (some (.ref f_07))) (l_07:K.lookup f_07=some ⟨oc_07,od_07,.func (W.fnOf "first_parting" "first_parting" (qam qa4) (qal qa4) (qad qa4) .none kV_07 dc_07 pm_07 an_07 cd_07 ct_07),sl_07⟩) (c_07:W.codeIn K cd_07 "first_parting" = true) (k_07:W.keepIn K (.ref f_07)=true)
   (a_16:W.nsIn K mainGlobals "compared_in" = some (some (.ref f_16))) (l_16:K.lookup f_16=some ⟨oc_16,od_16,.func (W.fnOf "compared_in" "compared_in" (qam qbh) (qal qbh) (qad qbh) .none kV_16 dc_16 pm_16 an_16 cd_16 ct_16),sl_16⟩) (c_16:W.codeIn K cd_16 "compared_in" = true) (k_16:W.keepIn K (.ref f_16)=true)
   (a_42:W.nsIn K mainGlobals "compared" = some (some (.ref f_42))) (l_42:K.lookup f_42=some ⟨oc_42,od_42,.func (W.fnOf "compared" "compared" (qam qb8) (qal qb8) (qad qb8) .none kV_42 dc_42 pm_42 an_42 cd_42 ct_42),sl_42⟩) (c_42:W.codeIn K cd_42 "compared" = true) (k_42:W.keepIn K (.ref f_42)=true)
   (a_33:W.nsIn K mainGlobals "turned_by" = some (some (.ref f_33))) (l_33:K.lookup f_33=some ⟨oc_33,od_33,.func (W.fnOf "turned_by" "turned_by" (qam qbO) (qal qbO) (qad qbO) .none kV_33 dc_33 pm_33 an_33 cd_33 ct_33),sl_33⟩) (c_33:W.codeIn K cd_33 "turned_by" = true) (k_33:W.keepIn K (.ref f_33)=true)
   (a_58:W.nsIn K mainGlobals "turns" = some (some (.ref f_58))) (l_58:K.lookup f_58=some ⟨oc_58,od_58,.func (W.fnOf "turns" "turns" (qam qec) (qal qec) (qad qec) .none kV_58 dc_58 pm_58 an_58 cd_58 ct_58),sl_58⟩) (c_58:W.codeIn K cd_58 "turns" = true) (k_58:W.keepIn K (.ref f_58)=true)
   (a_11:W.nsIn K mainGlobals "show_numbers" = some (some (.ref f_11))) (l_11:K.lookup f_11=some ⟨oc_11,od_11,.func (W.fnOf "show_numbers" "show_numbers" (qam qa9) (qal qa9) (qad qa9) .none kV_11 dc_11 pm_11 an_11 cd_11 ct_11),sl_11⟩) (c_11:W.codeIn K cd_11 "show_numbers" = true) (k_11:W.keepIn K (.ref f_11)=true)
   (a_01:W.nsIn K mainGlobals "show_word_and_sets" = some (some (.ref f_01))) (l_01:K.lookup f_01=some ⟨oc_01,od_01,.func (W.fnOf "show_word_and_sets" "show_word_and_sets" (qam qaG) (qal qaG) (qad qaG) .none kV_01 dc_01 pm_01 an_01 cd_01 ct_01),sl_01⟩) (c_01:W.codeIn K cd_01 "show_word_and_sets" = true) (k_01:W.keepIn K (.ref f_01)=true)
   (a_17:W.nsIn K mainGlobals "show_looked" = some (some (.ref f_17))) (l_17:K.lookup f_17=some ⟨oc_17,od_17,.func (W.fnOf "show_looked" "show_looked" (qam qbi) (qal qbi) (qad qbi) .none kV_17 dc_17 pm_17 an_17 cd_17 ct_17),sl_17⟩) (c_17:W.codeIn K cd_17 "show_looked" = true) (k_17:W.keepIn K (.ref f_17)=true)
   (a_53:W.nsIn K mainGlobals "ranked" = some (some (.ref f_53))) (l_53:K.lookup f_53=some ⟨oc_53,od_53,.func (W.fnOf "ranked" "ranked" (qam qdk) (qal qdk) (qad qdk) .none kV_53 dc_53 pm_53 an_53 cd_53 ct_53),sl_53⟩) (c_53:W.codeIn K cd_53 "ranked" = true) (k_53:W.keepIn K (.ref f_53)=true)
   (a_59:W.nsIn K mainGlobals "ranks" = some (some (.ref f_59))) (l_59:K.lookup f_59=some ⟨oc_59,od_59,.func (W.fnOf "ranks" "ranks" (qam qee) (qal qee) (qad qee) .none kV_59 dc_59 pm_59 an_59 cd_59 ct_59),sl_59⟩) (c_59:W.codeIn K cd_59 "ranks" = true) (k_59:W.keepIn K (.ref f_59)=true)
   (a_25:W.nsIn K mainGlobals "show_alike" = some (some (.ref f_25))) (l_25:K.lookup f_25=some ⟨oc_25,od_25,.func (W.fnOf "show_alike" "show_alike" (qam qbD) (qal qbD) (qad qbD) .none kV_25 dc_25 pm_25 an_25 cd_25 ct_25),sl_25⟩) (c_25:W.codeIn K cd_25 "show_alike" = true) (k_25:W.keepIn K (.ref f_25)=true)
   (a_26:W.nsIn K mainGlobals "show_ranks" = some (some (.ref f_26))) (l_26:K.lookup f_26=some ⟨oc_26,od_26,.func (W.fnOf "show_ranks" "show_ranks" (qam qbB) (qal qbB) (qad qbB) .none kV_26 dc_26 pm_26 an_26 cd_26 ct_26),sl_26⟩) (c_26:W.codeIn K cd_26 "show_ranks" = true) (k_26:W.keepIn K (.ref f_26)=true)
   (a_27:W.nsIn K mainGlobals "by_weights" = some (some (.ref f_27))) (l_27:K.lookup f_27=some ⟨oc_27,od_27,.func (W.fnOf "by_weights" "by_weights" (qam qbr) (qal qbr) (qad qbr) .none kV_27 dc_27 pm_27 an_27 cd_27 ct_27),sl_27⟩) (c_27:W.codeIn K cd_27 "by_weights" = true) (k_27:W.keepIn K (.ref f_27)=true)
   (a_12:W.nsIn K mainGlobals "show_weights" = some (some (.ref f_12))) (l_12:K.lookup f_12=some ⟨oc_12,od_12,.func (W.fnOf "show_weights" "show_weights" (qam qa8) (qal qa8) (qad qa8) .none kV_12 dc_12 pm_12 an_12 cd_12 ct_12),sl_12⟩) (c_12:W.codeIn K cd_12 "show_weights" = true) (k_12:W.keepIn K (.ref f_12)=true)
   (a_03:W.nsIn K mainGlobals "compared_unlike" = some (some (.ref f_03))) (l_03:K.lookup f_03=some ⟨oc_03,od_03,.func (W.fnOf "compared_unlike" "compared_unlike" (qam qaP) (qal qaP) (qad qaP) .none kV_03 dc_03 pm_03 an_03 cd_03 ct_03),sl_03⟩) (c_03:W.codeIn K cd_03 "compared_unlike" = true) (k_03:W.keepIn K (.ref f_03)=true)
   (a_43:W.nsIn K mainGlobals "new_name" = some (some (.ref f_43))) (l_43:K.lookup f_43=some ⟨oc_43,od_43,.func (W.fnOf "new_name" "new_name" (qam qci) (qal qci) (qad qci) .none kV_43 dc_43 pm_43 an_43 cd_43 ct_43),sl_43⟩) (c_43:W.codeIn K cd_43 "new_name" = true) (k_43:W.keepIn K (.ref f_43)=true)
   (a_44:W.nsIn K mainGlobals "parts_of" = some (some (.ref f_44))) (l_44:K.lookup f_44=some ⟨oc_44,od_44,.func (W.fnOf "parts_of" "parts_of" (qam qcc) (qal qcc) (qad qcc) .none kV_44 dc_44 pm_44 an_44 cd_44 ct_44),sl_44⟩) (c_44:W.codeIn K cd_44 "parts_of" = true) (k_44:W.keepIn K (.ref f_44)=true)
   (a_08:W.findIn K (.ref cD) "__init__" = some (some (.ref f_08))) (i_08:W.isFn K (.ref f_08)=true) (l_08:K.lookup f_08=some ⟨oc_08,od_08,.func (W.fnOf "__init__" "Desk.__init__" (qam qa1) (qal qa1) (qad qa1) .none kV_08 dc_08 pm_08 an_08 cd_08 ct_08),sl_08⟩) (c_08:W.codeIn K cd_08 "Desk.__init__" = true) (k_08:W.keepIn K (.ref f_08)=true)
   (a_05:W.findIn K (.ref cD) "family_by" = some (some (.ref f_05))) (i_05:W.isFn K (.ref f_05)=true) (l_05:K.lookup f_05=some ⟨oc_05,od_05,.func (W.fnOf "family_by" "Desk.family_by" (qam qaU) (qal qaU) (qad qaU) .none kV_05 dc_05 pm_05 an_05 cd_05 ct_05),sl_05⟩) (c_05:W.codeIn K cd_05 "Desk.family_by" = true) (k_05:W.keepIn K (.ref f_05)=true)
   (a_02:W.findIn K (.ref cD) "look_for_room" = some (some (.ref f_02))) (i_02:W.isFn K (.ref f_02)=true) (l_02:K.lookup f_02=some ⟨oc_02,od_02,.func (W.fnOf "look_for_room" "Desk.look_for_room" (qam qaI) (qal qaI) (qad qaI) .none kV_02 dc_02 pm_02 an_02 cd_02 ct_02),sl_02⟩) (c_02:W.codeIn K cd_02 "Desk.look_for_room" = true) (k_02:W.keepIn K (.ref f_02)=true)
   (a_09:W.findIn K (.ref cD) "thing_of" = some (some (.ref f_09))) (i_09:W.isFn K (.ref f_09)=true) (l_09:K.lookup f_09=some ⟨oc_09,od_09,.func (W.fnOf "thing_of" "Desk.thing_of" (qam qa0) (qal qa0) (qad qa0) .none kV_09 dc_09 pm_09 an_09 cd_09 ct_09),sl_09⟩) (c_09:W.codeIn K cd_09 "Desk.thing_of" = true) (k_09:W.keepIn K (.ref f_09)=true)
   (a_65:W.nsIn K mainGlobals "made" = some (some (.ref f_65))) (l_65:K.lookup f_65=some ⟨oc_65,od_65,.func (W.fnOf "made" "made" (qam qgx) (qal qgx) (qad qgx) .none kV_65 dc_65 pm_65 an_65 cd_65 ct_65),sl_65⟩) (c_65:W.codeIn K cd_65 "made" = true) (k_65:W.keepIn K (.ref f_65)=true)
   (a_45:W.nsIn K mainGlobals "answered" = some (some (.ref f_45))) (l_45:K.lookup f_45=some ⟨oc_45,od_45,.func (W.fnOf "answered" "answered" (qam qcg) (qal qcg) (qad qcg) .none kV_45 dc_45 pm_45 an_45 cd_45 ct_45),sl_45⟩) (c_45:W.codeIn K cd_45 "answered" = true) (k_45:W.keepIn K (.ref f_45)=true)
   (a_46:W.findIn K (.ref cD) "say" = some (some (.ref f_46))) (i_46:W.isFn K (.ref f_46)=true) (l_46:K.lookup f_46=some ⟨oc_46,od_46,.func (W.fnOf "say" "Desk.say" (qam qcf) (qal qcf) (qad qcf) .none kV_46 dc_46 pm_46 an_46 cd_46 ct_46),sl_46⟩) (c_46:W.codeIn K cd_46 "Desk.say" = true) (k_46:W.keepIn K (.ref f_46)=true)
   (a_18:W.nsIn K mainGlobals "_law_looked" = some (some (.ref f_18))) (l_18:K.lookup f_18=some ⟨oc_18,od_18,.func (W.fnOf "_law_looked" "_law_looked" (qam qbl) (qal qbl) (qad qbl) .none kV_18 dc_18 pm_18 an_18 cd_18 ct_18),sl_18⟩) (c_18:W.codeIn K cd_18 "_law_looked" = true) (k_18:W.keepIn K (.ref f_18)=true)
   (a_34:W.nsIn K mainGlobals "_law_said" = some (some (.ref f_34))) (l_34:K.lookup f_34=some ⟨oc_34,od_34,.func (W.fnOf "_law_said" "_law_said" (qam qbL) (qal qbL) (qad qbL) .none kV_34 dc_34 pm_34 an_34 cd_34 ct_34),sl_34⟩) (c_34:W.codeIn K cd_34 "_law_said" = true) (k_34:W.keepIn K (.ref f_34)=true)
   (a_law:W.nsIn K mainGlobals "law" = some (some (.ref f_law))) (l_law:K.lookup f_law=some ⟨oc_law,od_law,.func (W.fnOf "law" "law" (qam qgQ) (qal qgQ) (qad qgQ) .none kV_law dc_law pm_law an_law cd_law ct_law),sl_law⟩) (c_law:W.codeIn K cd_law "law" = true) (k_law:W.keepIn K (.ref f_law)=true)
   (z_isinstance:W.nsIn K mainGlobals "isinstance" = some none)
   (z_int:W.nsIn K mainGlobals "int" = some none)
   (z_bool:W.nsIn K mainGlobals "bool" = some none)
   (z_len:W.nsIn K mainGlobals "len" = some none)
   (z_sum:W.nsIn K mainGlobals "sum" = some none)
   (z_sorted:W.nsIn K mainGlobals "sorted" = some none)
   (z_set:W.nsIn K mainGlobals "set" = some none)
   (z_range:W.nsIn K mainGlobals "range" = some none)
   (z_list:W.nsIn K mainGlobals "list" = some none)
   (z_str:W.nsIn K mainGlobals "str" = some none)
   (z_all:W.nsIn K mainGlobals "all" = some none)
   (z_reversed:W.nsIn K mainGlobals "reversed" = some none)
   (z_enumerate:W.nsIn K mainGlobals "enumerate" = some none)
   (z_zip:W.nsIn K mainGlobals "zip" = some none)
   {t_MOST_SETS:Tok} (v_MOST_SETS:W.nsIn K mainGlobals "MOST_SETS" = some (some (.int 70 t_MOST_SETS)))
   {t_MOST_LETTERS:Tok} (v_MOST_LETTERS:W.nsIn K mainGlobals "MOST_LETTERS" = some (some (.int 8 t_MOST_LETTERS)))
   {t_MOST_NAMES:Tok} (v_MOST_NAMES:W.nsIn K mainGlobals "MOST_NAMES" = some (some (.int 8 t_MOST_NAMES)))
   {t_NO_SETS:Tok} (v_NO_SETS:W.nsIn K mainGlobals "NO_SETS" = some (some (.str "none" t_NO_SETS)))
   {t_NO_NAMES:Tok} (v_NO_NAMES:W.nsIn K mainGlobals "NO_NAMES" = some (some (.str "-" t_NO_NAMES)))
   {t_MOST_KEPT:Tok} (v_MOST_KEPT:W.nsIn K mainGlobals "MOST_KEPT" = some (some (.int 20 t_MOST_KEPT)))
   {tW1 tW2 tW3 tW4 tW5 tW6 tW7 tW8 tW9 tW10 tW11 tW12 tW13 tW14 tW15:Addr} {hW1 hW2 hW3 hW4 hW5 hW6 hW7 hW8 hW9 hW10 hW11 hW12 hW13 hW14 hW15:Int} {kW1 kW2 kW3 kW4 kW5 kW6 kW7 kW8 kW9 kW10 kW11 kW12 kW13 kW14 kW15:Tok} {ep:Nat} (gD:W.nsIn K mainGlobals "Desk" = some (some (.ref cD))) (gW:W.nsIn K mainGlobals "WANTED" = some (some (.ref aW))) (lW:K.lookup aW=some ⟨.type "dict",none,.dict #[⟨hW1,.str "let" kW1,.ref tW1⟩,⟨hW2,.str "hits" kW2,.ref tW2⟩,⟨hW3,.str "rests" kW3,.ref tW3⟩,⟨hW4,.str "either" kW4,.ref tW4⟩,⟨hW5,.str "both" kW5,.ref tW5⟩,⟨hW6,.str "in" kW6,.ref tW6⟩,⟨hW7,.str "out" kW7,.ref tW7⟩,⟨hW8,.str "show" kW8,.ref tW8⟩,⟨hW9,.str "says" kW9,.ref tW9⟩,⟨hW10,.str "look" kW10,.ref tW10⟩,⟨hW11,.str "held" kW11,.ref tW11⟩,⟨hW12,.str "compare" kW12,.ref tW12⟩,⟨hW13,.str "turns" kW13,.ref tW13⟩,⟨hW14,.str "ranks" kW14,.ref tW14⟩,⟨hW15,.str "weights" kW15,.ref tW15⟩] ep,#[]⟩) (nW:(aW==sysModules)=false)
   {oW1:Option Addr} {nn1:Nat} {sW1:Array (Option Value)} {u1_0 u1_1:Tok} (eW1:hW1=hashStr w "let") (lW1:K.lookup tW1=some ⟨.type "tuple",oW1,.seq #[.str "new" u1_0,.str "text" u1_1] nn1,sW1⟩)
   {oW2:Option Addr} {nn2:Nat} {sW2:Array (Option Value)} {u2_0 u2_1:Tok} (eW2:hW2=hashStr w "hits") (lW2:K.lookup tW2=some ⟨.type "tuple",oW2,.seq #[.str "new" u2_0,.str "family" u2_1] nn2,sW2⟩)
   {oW3:Option Addr} {nn3:Nat} {sW3:Array (Option Value)} {u3_0 u3_1:Tok} (eW3:hW3=hashStr w "rests") (lW3:K.lookup tW3=some ⟨.type "tuple",oW3,.seq #[.str "new" u3_0,.str "family" u3_1] nn3,sW3⟩)
   {oW4:Option Addr} {nn4:Nat} {sW4:Array (Option Value)} {u4_0 u4_1 u4_2:Tok} (eW4:hW4=hashStr w "either") (lW4:K.lookup tW4=some ⟨.type "tuple",oW4,.seq #[.str "new" u4_0,.str "family" u4_1,.str "family" u4_2] nn4,sW4⟩)
   {oW5:Option Addr} {nn5:Nat} {sW5:Array (Option Value)} {u5_0 u5_1 u5_2:Tok} (eW5:hW5=hashStr w "both") (lW5:K.lookup tW5=some ⟨.type "tuple",oW5,.seq #[.str "new" u5_0,.str "family" u5_1,.str "family" u5_2] nn5,sW5⟩)
   {oW6:Option Addr} {nn6:Nat} {sW6:Array (Option Value)} {u6_0 u6_1 u6_2:Tok} (eW6:hW6=hashStr w "in") (lW6:K.lookup tW6=some ⟨.type "tuple",oW6,.seq #[.str "new" u6_0,.str "family" u6_1,.str "name" u6_2] nn6,sW6⟩)
   {oW7:Option Addr} {nn7:Nat} {sW7:Array (Option Value)} {u7_0 u7_1 u7_2:Tok} (eW7:hW7=hashStr w "out") (lW7:K.lookup tW7=some ⟨.type "tuple",oW7,.seq #[.str "new" u7_0,.str "family" u7_1,.str "name" u7_2] nn7,sW7⟩)
   {oW8:Option Addr} {nn8:Nat} {sW8:Array (Option Value)} {u8_0:Tok} (eW8:hW8=hashStr w "show") (lW8:K.lookup tW8=some ⟨.type "tuple",oW8,.seq #[.str "family" u8_0] nn8,sW8⟩)
   {oW9:Option Addr} {nn9:Nat} {sW9:Array (Option Value)} {u9_0 u9_1:Tok} (eW9:hW9=hashStr w "says") (lW9:K.lookup tW9=some ⟨.type "tuple",oW9,.seq #[.str "family" u9_0,.str "set" u9_1] nn9,sW9⟩)
   {oW10:Option Addr} {nn10:Nat} {sW10:Array (Option Value)} {u10_0 u10_1:Tok} (eW10:hW10=hashStr w "look") (lW10:K.lookup tW10=some ⟨.type "tuple",oW10,.seq #[.str "family" u10_0,.str "set" u10_1] nn10,sW10⟩)
   {oW11:Option Addr} {nn11:Nat} {sW11:Array (Option Value)} {u11_0 u11_1:Tok} (eW11:hW11=hashStr w "held") (lW11:K.lookup tW11=some ⟨.type "tuple",oW11,.seq #[.str "family" u11_0,.str "family" u11_1] nn11,sW11⟩)
   {oW12:Option Addr} {nn12:Nat} {sW12:Array (Option Value)} {u12_0 u12_1 u12_2:Tok} (eW12:hW12=hashStr w "compare") (lW12:K.lookup tW12=some ⟨.type "tuple",oW12,.seq #[.str "family" u12_0,.str "name" u12_1,.str "name" u12_2] nn12,sW12⟩)
   {oW13:Option Addr} {nn13:Nat} {sW13:Array (Option Value)} {u13_0:Tok} (eW13:hW13=hashStr w "turns") (lW13:K.lookup tW13=some ⟨.type "tuple",oW13,.seq #[.str "family" u13_0] nn13,sW13⟩)
   {oW14:Option Addr} {nn14:Nat} {sW14:Array (Option Value)} {u14_0:Tok} (eW14:hW14=hashStr w "ranks") (lW14:K.lookup tW14=some ⟨.type "tuple",oW14,.seq #[.str "family" u14_0] nn14,sW14⟩)
   {oW15:Option Addr} {nn15:Nat} {sW15:Array (Option Value)} {u15_0:Tok} (eW15:hW15=hashStr w "weights") (lW15:K.lookup tW15=some ⟨.type "tuple",oW15,.seq #[.str "family" u15_0] nn15,sW15⟩)
   (pgD:W.plainGet K cD Str.empty=true) (hdD:W.hasDictIn K cD=true) (poD:W.plainOver K cD=true) (saD:W.findIn K (.ref cD) "__setattr__" = some (some (.builtin "object.__setattr__"))) (nwD:W.findIn K (.ref cD) "words" = some none) (nkD:W.findIn K (.ref cD) "kept" = some none) (mkD:W.makesIn K cD=true) (kpD:W.keepIn K (.ref cD)=true) :
   ∃fd:FuncData,(∀(s:Shared) (v:Value),BindsTo s fd ⟨[v],[]⟩ [("_law_script",v)])∧∀base:Heap,K.In base→base.Ns mainGlobals mg→qaZ l.prog w K mg base CX0 9 fa fd ["_law_script"] ((qlM K)):=by
 have e:=hfa.symm.trans (W.mg_of X G a_law)
 cases e
 have T:Txt mg:=⟨W.mg_none_of X G z_isinstance,W.mg_none_of X G z_int,W.mg_none_of X G z_bool,W.mg_none_of X G z_len,W.mg_none_of X G z_sum,W.mg_none_of X G z_sorted,W.mg_none_of X G z_set,W.mg_none_of X G z_range,W.mg_none_of X G z_list,W.mg_none_of X G z_str,W.mg_none_of X G z_all,W.mg_none_of X G z_reversed,W.mg_none_of X G z_enumerate,W.mg_none_of X G z_zip,⟨_,W.mg_of X G v_MOST_SETS⟩,⟨_,W.mg_of X G v_MOST_LETTERS⟩,⟨_,W.mg_of X G v_MOST_NAMES⟩,⟨_,W.mg_of X G v_NO_SETS⟩,⟨_,W.mg_of X G v_NO_NAMES⟩,⟨_,W.mg_of X G v_MOST_KEPT⟩⟩
 have EW:qri K w qiO [⟨hW1,.str "let" kW1,.ref tW1⟩,⟨hW2,.str "hits" kW2,.ref tW2⟩,⟨hW3,.str "rests" kW3,.ref tW3⟩,⟨hW4,.str "either" kW4,.ref tW4⟩,⟨hW5,.str "both" kW5,.ref tW5⟩,⟨hW6,.str "in" kW6,.ref tW6⟩,⟨hW7,.str "out" kW7,.ref tW7⟩,⟨hW8,.str "show" kW8,.ref tW8⟩,⟨hW9,.str "says" kW9,.ref tW9⟩,⟨hW10,.str "look" kW10,.ref tW10⟩,⟨hW11,.str "held" kW11,.ref tW11⟩,⟨hW12,.str "compare" kW12,.ref tW12⟩,⟨hW13,.str "turns" kW13,.ref tW13⟩,⟨hW14,.str "ranks" kW14,.ref tW14⟩,⟨hW15,.str "weights" kW15,.ref tW15⟩]:=⟨⟨_,_,by rw [eW1],qcm lW1 (by simp) (.cons ⟨_,rfl⟩ (.cons ⟨_,rfl⟩ .nil))⟩,⟨_,_,by rw [eW2],qcm lW2 (by simp) (.cons ⟨_,rfl⟩ (.cons ⟨_,rfl⟩ .nil))⟩,⟨_,_,by rw [eW3],qcm lW3 (by simp) (.cons ⟨_,rfl⟩ (.cons ⟨_,rfl⟩ .nil))⟩,⟨_,_,by rw [eW4],qcm lW4 (by simp) (.cons ⟨_,rfl⟩ (.cons ⟨_,rfl⟩ (.cons ⟨_,rfl⟩ .nil)))⟩,⟨_,_,by rw [eW5],qcm lW5 (by simp) (.cons ⟨_,rfl⟩ (.cons ⟨_,rfl⟩ (.cons ⟨_,rfl⟩ .nil)))⟩,⟨_,_,by rw [eW6],qcm lW6 (by simp) (.cons ⟨_,rfl⟩ (.cons ⟨_,rfl⟩ (.cons ⟨_,rfl⟩ .nil)))⟩,⟨_,_,by rw [eW7],qcm lW7 (by simp) (.cons ⟨_,rfl⟩ (.cons ⟨_,rfl⟩ (.cons ⟨_,rfl⟩ .nil)))⟩,⟨_,_,by rw [eW8],qcm lW8 (by simp) (.cons ⟨_,rfl⟩ .nil)⟩,⟨_,_,by rw [eW9],qcm lW9 (by simp) (.cons ⟨_,rfl⟩ (.cons ⟨_,rfl⟩ .nil))⟩,⟨_,_,by rw [eW10],qcm lW10 (by simp) (.cons ⟨_,rfl⟩ (.cons ⟨_,rfl⟩ .nil))⟩,⟨_,_,by rw [eW11],qcm lW11 (by simp) (.cons ⟨_,rfl⟩ (.cons ⟨_,rfl⟩ .nil))⟩,⟨_,_,by rw [eW12],qcm lW12 (by simp) (.cons ⟨_,rfl⟩ (.cons ⟨_,rfl⟩ (.cons ⟨_,rfl⟩ .nil)))⟩,⟨_,_,by rw [eW13],qcm lW13 (by simp) (.cons ⟨_,rfl⟩ .nil)⟩,⟨_,_,by rw [eW14],qcm lW14 (by simp) (.cons ⟨_,rfl⟩ .nil)⟩,⟨_,_,by rw [eW15],qcm lW15 (by simp) (.cons ⟨_,rfl⟩ .nil)⟩,trivial⟩
 have Z:Xt l.prog w K mg cD aW:=⟨W.mg_of X G gD,⟨pgD,hdD,poD,saD⟩,nwD,nkD,W.mg_of X G gW,qpP lW nW EW⟩
 have F_35:=qav (st:=qch) l_35 c_35 k_35
 have b_35:=F_35.binds (ps:=["thing"]) fun _ _ _ _ _ _ us hl=>match us,hl with | [_],_=>rfl
 have F_19:=qav (st:=qbu) l_19 c_19 k_19
 have b_19:=F_19.binds (ps:=["_law_script", "_law_amount"]) fun _ _ _ _ _ _ us hl=>match us,hl with | [_,_],_=>rfl
 have F_13:=qav (st:=qbg) l_13 c_13 k_13
 have b_13:=F_13.binds (ps:=["_law_cells_here", "_law_many"]) fun _ _ _ _ _ _ us hl=>match us,hl with | [_,_],_=>rfl
 have F_20:=qav (st:=qbw) l_20 c_20 k_20
 have b_20:=F_20.binds (ps:=["_law_script", "_law_bound"]) fun _ _ _ _ _ _ us hl=>match us,hl with | [_,_],_=>rfl
 have F_21:=qav (st:=qbA) l_21 c_21 k_21
 have b_21:=F_21.binds (ps:=["_law_cell", "_law_many"]) fun _ _ _ _ _ _ us hl=>match us,hl with | [_,_],_=>rfl
 have F_06:=qav (st:=qa3) l_06 c_06 k_06
 have b_06:=F_06.binds (ps:=["_law_words_here", "_law_one"]) fun _ _ _ _ _ _ us hl=>match us,hl with | [_,_],_=>rfl
 have F_28:=qav (st:=qbR) l_28 c_28 k_28
 have b_28:=F_28.binds (ps:=["_law_words_here", "_law_family_here"]) fun _ _ _ _ _ _ us hl=>match us,hl with | [_,_],_=>rfl
 have F_36:=qav (st:=qcd) l_36 c_36 k_36
 have b_36:=F_36.binds (ps:=["_law_words_here", "_law_text_here"]) fun _ _ _ _ _ _ us hl=>match us,hl with | [_,_],_=>rfl
 have F_29:=qav (st:=qbS) l_29 c_29 k_29
 have b_29:=F_29.binds (ps:=["_law_words_here", "_law_text_here"]) fun _ _ _ _ _ _ us hl=>match us,hl with | [_,_],_=>rfl
 have F_22:=qav (st:=qbs) l_22 c_22 k_22
 have b_22:=F_22.binds (ps:=["_law_one", "_law_family_here"]) fun _ _ _ _ _ _ us hl=>match us,hl with | [_,_],_=>rfl
 have F_37:=qav (st:=qcb) l_37 c_37 k_37
 have b_37:=F_37.binds (ps:=["_law_many", "_law_family_here"]) fun _ _ _ _ _ _ us hl=>match us,hl with | [_,_],_=>rfl
 have F_48:=qav (st:=qdm) l_48 c_48 k_48
 have b_48:=F_48.binds (ps:=["many", "thing"]) fun _ _ _ _ _ _ us hl=>match us,hl with | [_,_],_=>rfl
 have F_30:=qav (st:=qbN) l_30 c_30 k_30
 have b_30:=F_30.binds (ps:=["many", "thing"]) fun _ _ _ _ _ _ us hl=>match us,hl with | [_,_],_=>rfl
 have F_38:=qav (st:=qca) l_38 c_38 k_38
 have b_38:=F_38.binds (ps:=["one"]) fun _ _ _ _ _ _ us hl=>match us,hl with | [_],_=>rfl
 have F_49:=qav (st:=qdl) l_49 c_49 k_49
 have b_49:=F_49.binds (ps:=["names"]) fun _ _ _ _ _ _ us hl=>match us,hl with | [_],_=>rfl
 have F_50:=qav (st:=qdh) l_50 c_50 k_50
 have b_50:=F_50.binds (ps:=["text", "sign"]) fun _ _ _ _ _ _ us hl=>match us,hl with | [_,_],_=>rfl
 have F_47:=qav (st:=qcC) l_47 c_47 k_47
 have b_47:=F_47.binds (ps:=["text"]) fun _ _ _ _ _ _ us hl=>match us,hl with | [_],_=>rfl
 have F_23:=qav (st:=qbv) l_23 c_23 k_23
 have b_23:=F_23.binds (ps:=["text"]) fun _ _ _ _ _ _ us hl=>match us,hl with | [_],_=>rfl
 have F_31:=qav (st:=qbK) l_31 c_31 k_31
 have b_31:=F_31.binds (ps:=["words", "word"]) fun _ _ _ _ _ _ us hl=>match us,hl with | [_,_],_=>rfl
 have F_39:=qav (st:=qb6) l_39 c_39 k_39
 have b_39:=F_39.binds (ps:=["words", "one"]) fun _ _ _ _ _ _ us hl=>match us,hl with | [_,_],_=>rfl
 have F_14:=qav (st:=qbk) l_14 c_14 k_14
 have b_14:=F_14.binds (ps:=["words", "family"]) fun _ _ _ _ _ _ us hl=>match us,hl with | [_,_],_=>rfl
 have F_40:=qav (st:=qb7) l_40 c_40 k_40
 have b_40:=F_40.binds (ps:=["words", "text"]) fun _ _ _ _ _ _ us hl=>match us,hl with | [_,_],_=>rfl
 have F_15:=qav (st:=qbf) l_15 c_15 k_15
 have b_15:=F_15.binds (ps:=["words", "text"]) fun _ _ _ _ _ _ us hl=>match us,hl with | [_,_],_=>rfl
 have F_54:=qav (st:=qen) l_54 c_54 k_54
 have b_54:=F_54.binds (ps:=["one", "other"]) fun _ _ _ _ _ _ us hl=>match us,hl with | [_,_],_=>rfl
 have F_55:=qav (st:=qei) l_55 c_55 k_55
 have b_55:=F_55.binds (ps:=["one", "other"]) fun _ _ _ _ _ _ us hl=>match us,hl with | [_,_],_=>rfl
 have F_60:=qav (st:=qgD) l_60 c_60 k_60
 have b_60:=F_60.binds (ps:=["many", "one"]) fun _ _ _ _ _ _ us hl=>match us,hl with | [_,_],_=>rfl
 have F_61:=qav (st:=qgu) l_61 c_61 k_61
 have b_61:=F_61.binds (ps:=["family", "one"]) fun _ _ _ _ _ _ us hl=>match us,hl with | [_,_],_=>rfl
 have F_56:=qav (st:=qef) l_56 c_56 k_56
 have b_56:=F_56.binds (ps:=["some"]) fun _ _ _ _ _ _ us hl=>match us,hl with | [_],_=>rfl
 have F_57:=qav (st:=qeo) l_57 c_57 k_57
 have b_57:=F_57.binds (ps:=["many", "family"]) fun _ _ _ _ _ _ us hl=>match us,hl with | [_,_],_=>rfl
 have F_10:=qav (st:=qbb) l_10 c_10 k_10
 have b_10:=F_10.binds (ps:=["family", "one"]) fun _ _ _ _ _ _ us hl=>match us,hl with | [_,_],_=>rfl
 have F_62:=qav (st:=qgv) l_62 c_62 k_62
 have b_62:=F_62.binds (ps:=["many", "family"]) fun _ _ _ _ _ _ us hl=>match us,hl with | [_,_],_=>rfl
 have F_32:=qav (st:=qbQ) l_32 c_32 k_32
 have b_32:=F_32.binds (ps:=["family", "k"]) fun _ _ _ _ _ _ us hl=>match us,hl with | [_,_],_=>rfl
 have F_24:=qav (st:=qby) l_24 c_24 k_24
 have b_24:=F_24.binds (ps:=["family", "k"]) fun _ _ _ _ _ _ us hl=>match us,hl with | [_,_],_=>rfl
 have F_51:=qav (st:=qdf) l_51 c_51 k_51
 have b_51:=F_51.binds (ps:=["one", "other"]) fun _ _ _ _ _ _ us hl=>match us,hl with | [_,_],_=>rfl
 have F_63:=qav (st:=qgC) l_63 c_63 k_63
 have b_63:=F_63.binds (ps:=["one", "other"]) fun _ _ _ _ _ _ us hl=>match us,hl with | [_,_],_=>rfl
 have F_00:=qav (st:=qaH) l_00 c_00 k_00
 have b_00:=F_00.binds (ps:=["family", "one", "k"]) fun _ _ _ _ _ _ us hl=>match us,hl with | [_,_,_],_=>rfl
 have F_52:=qav (st:=qdn) l_52 c_52 k_52
 have b_52:=F_52.binds (ps:=["family", "one"]) fun _ _ _ _ _ _ us hl=>match us,hl with | [_,_],_=>rfl
 have F_04:=qav (st:=qaV) l_04 c_04 k_04
 have b_04:=F_04.binds (ps:=["many", "one", "other"]) fun _ _ _ _ _ _ us hl=>match us,hl with | [_,_,_],_=>rfl
 have F_64:=qav (st:=qgo) l_64 c_64 k_64
 have b_64:=F_64.binds (ps:=["many", "one", "other"]) fun _ _ _ _ _ _ us hl=>match us,hl with | [_,_,_],_=>rfl
 have F_41:=qav (st:=qce) l_41 c_41 k_41
 have b_41:=F_41.binds (ps:=["many", "family"]) fun _ _ _ _ _ _ us hl=>match us,hl with | [_,_],_=>rfl
 have F_07:=qav (st:=qa4) l_07 c_07 k_07
 have b_07:=F_07.binds (ps:=["many", "table", "x", "y"]) fun _ _ _ _ _ _ us hl=>match us,hl with | [_,_,_,_],_=>rfl
 have F_16:=qav (st:=qbh) l_16 c_16 k_16
 have b_16:=F_16.binds (ps:=["many", "table", "x", "y"]) fun _ _ _ _ _ _ us hl=>match us,hl with | [_,_,_,_],_=>rfl
 have F_42:=qav (st:=qb8) l_42 c_42 k_42
 have b_42:=F_42.binds (ps:=["many", "family", "x", "y"]) fun _ _ _ _ _ _ us hl=>match us,hl with | [_,_,_,_],_=>rfl
 have F_33:=qav (st:=qbO) l_33 c_33 k_33
 have b_33:=F_33.binds (ps:=["many", "table", "k"]) fun _ _ _ _ _ _ us hl=>match us,hl with | [_,_,_],_=>rfl
 have F_58:=qav (st:=qec) l_58 c_58 k_58
 have b_58:=F_58.binds (ps:=["many", "family"]) fun _ _ _ _ _ _ us hl=>match us,hl with | [_,_],_=>rfl
 have F_11:=qav (st:=qa9) l_11 c_11 k_11
 have b_11:=F_11.binds (ps:=["numbers"]) fun _ _ _ _ _ _ us hl=>match us,hl with | [_],_=>rfl
 have F_01:=qav (st:=qaG) l_01 c_01 k_01
 have b_01:=F_01.binds (ps:=["words", "told"]) fun _ _ _ _ _ _ us hl=>match us,hl with | [_,_],_=>rfl
 have F_17:=qav (st:=qbi) l_17 c_17 k_17
 have b_17:=F_17.binds (ps:=["words", "told"]) fun _ _ _ _ _ _ us hl=>match us,hl with | [_,_],_=>rfl
 have F_53:=qav (st:=qdk) l_53 c_53 k_53
 have b_53:=F_53.binds (ps:=["counts"]) fun _ _ _ _ _ _ us hl=>match us,hl with | [_],_=>rfl
 have F_59:=qav (st:=qee) l_59 c_59 k_59
 have b_59:=F_59.binds (ps:=["many", "family"]) fun _ _ _ _ _ _ us hl=>match us,hl with | [_,_],_=>rfl
 have F_25:=qav (st:=qbD) l_25 c_25 k_25
 have b_25:=F_25.binds (ps:=["words", "names"]) fun _ _ _ _ _ _ us hl=>match us,hl with | [_,_],_=>rfl
 have F_26:=qav (st:=qbB) l_26 c_26 k_26
 have b_26:=F_26.binds (ps:=["words", "told"]) fun _ _ _ _ _ _ us hl=>match us,hl with | [_,_],_=>rfl
 have F_27:=qav (st:=qbr) l_27 c_27 k_27
 have b_27:=F_27.binds (ps:=["many", "family"]) fun _ _ _ _ _ _ us hl=>match us,hl with | [_,_],_=>rfl
 have F_12:=qav (st:=qa8) l_12 c_12 k_12
 have b_12:=F_12.binds (ps:=["words", "told"]) fun _ _ _ _ _ _ us hl=>match us,hl with | [_,_],_=>rfl
 have F_03:=qav (st:=qaP) l_03 c_03 k_03
 have b_03:=F_03.binds (ps:=["many", "family", "x", "y"]) fun _ _ _ _ _ _ us hl=>match us,hl with | [_,_,_,_],_=>rfl
 have F_43:=qav (st:=qci) l_43 c_43 k_43
 have b_43:=F_43.binds (ps:=["word"]) fun _ _ _ _ _ _ us hl=>match us,hl with | [_],_=>rfl
 have F_44:=qav (st:=qcc) l_44 c_44 k_44
 have b_44:=F_44.binds (ps:=["row"]) fun _ _ _ _ _ _ us hl=>match us,hl with | [_],_=>rfl
 have F_08:=qav (st:=qa1) l_08 c_08 k_08
 have b_08:=F_08.binds (ps:=["self", "text"]) fun _ _ _ _ _ _ us hl=>match us,hl with | [_,_],_=>rfl
 have F_05:=qav (st:=qaU) l_05 c_05 k_05
 have b_05:=F_05.binds (ps:=["self", "word"]) fun _ _ _ _ _ _ us hl=>match us,hl with | [_,_],_=>rfl
 have F_02:=qav (st:=qaI) l_02 c_02 k_02
 have b_02:=F_02.binds (ps:=["self", "name"]) fun _ _ _ _ _ _ us hl=>match us,hl with | [_,_],_=>rfl
 have F_09:=qav (st:=qa0) l_09 c_09 k_09
 have b_09:=F_09.binds (ps:=["self", "kind", "word"]) fun _ _ _ _ _ _ us hl=>match us,hl with | [_,_,_],_=>rfl
 have F_65:=qav (st:=qgx) l_65 c_65 k_65
 have b_65:=F_65.binds (ps:=["many", "deed", "things"]) fun _ _ _ _ _ _ us hl=>match us,hl with | [_,_,_],_=>rfl
 have F_45:=qav (st:=qcg) l_45 c_45 k_45
 have b_45:=F_45.binds (ps:=["words", "deed", "things"]) fun _ _ _ _ _ _ us hl=>match us,hl with | [_,_,_],_=>rfl
 have F_46:=qav (st:=qcf) l_46 c_46 k_46
 have b_46:=F_46.binds (ps:=["self", "row"]) fun _ _ _ _ _ _ us hl=>match us,hl with | [_,_],_=>rfl
 have F_18:=qav (st:=qbl) l_18 c_18 k_18
 have b_18:=F_18.binds (ps:=["_law_desk", "_law_words_here", "_law_name", "_law_family_here", "_law_one"]) fun _ _ _ _ _ _ us hl=>match us,hl with | [_,_,_,_,_],_=>rfl
 have F_34:=qav (st:=qbL) l_34 c_34 k_34
 have b_34:=F_34.binds (ps:=["_law_desk", "_law_words_here", "_law_name", "_law_family_here", "_law_found"]) fun _ _ _ _ _ _ us hl=>match us,hl with | [_,_,_,_,_],_=>rfl
 have F_law:=qav (st:=qgQ) l_law c_law k_law
 refine ⟨W.fnOf "law" "law" (qam qgQ) (qal qgQ) (qad qgQ) .none kV_law dc_law pm_law an_law cd_law ct_law,fun s v => .of_eq rfl,fun base _ _=>?_⟩
 have C_35:Cal l.prog w K mg base "is_whole" 1 ["thing"] qiU _ _:=⟨qiG F_35 T ,W.mg_of X G a_35,k_35,b_35⟩
 have C_19:Cal l.prog w K mg base "_law_cells" 1 ["_law_script", "_law_amount"] (qgF K) _ _:=⟨qhj F_19 T ,W.mg_of X G a_19,k_19,b_19⟩
 have C_13:Cal l.prog w K mg base "_law_family" 1 ["_law_cells_here", "_law_many"] (qgN K) _ _:=⟨qf6 F_13 T ,W.mg_of X G a_13,k_13,b_13⟩
 have C_20:Cal l.prog w K mg base "_law_drawn" 2 ["_law_script", "_law_bound"] (qi2 K) _ _:=⟨qg1 F_20 T C_19 C_13,W.mg_of X G a_20,k_20,b_20⟩
 have C_21:Cal l.prog w K mg base "_law_words" 1 ["_law_cell", "_law_many"] (qfI K) _ _:=⟨qgR F_21 T ,W.mg_of X G a_21,k_21,b_21⟩
 have C_06:Cal l.prog w K mg base "_law_set_text" 1 ["_law_words_here", "_law_one"] (qf3 K) _ _:=⟨qeS F_06 T ,W.mg_of X G a_06,k_06,b_06⟩
 have C_28:Cal l.prog w K mg base "_law_text" 2 ["_law_words_here", "_law_family_here"] (qiQ K) _ _:=⟨qhV F_28 T C_06,W.mg_of X G a_28,k_28,b_28⟩
 have C_36:Cal l.prog w K mg base "_law_set" 1 ["_law_words_here", "_law_text_here"] (qjk K) _ _:=⟨qiE F_36 T ,W.mg_of X G a_36,k_36,b_36⟩
 have C_29:Cal l.prog w K mg base "_law_read" 2 ["_law_words_here", "_law_text_here"] (qi3 K) _ _:=⟨qhK F_29 T C_36,W.mg_of X G a_29,k_29,b_29⟩
 have C_22:Cal l.prog w K mg base "_law_meets" 1 ["_law_one", "_law_family_here"] (qeZ K) _ _:=⟨qhm F_22 T ,W.mg_of X G a_22,k_22,b_22⟩
 have C_37:Cal l.prog w K mg base "_law_due" 2 ["_law_many", "_law_family_here"] (qlq K) _ _:=⟨qiB F_37 T C_22,W.mg_of X G a_37,k_37,b_37⟩
 have C_48:Cal l.prog w K mg base "is_set" 2 ["many", "thing"] qo2 _ _:=⟨qkj F_48 T C_35,W.mg_of X G a_48,k_48,b_48⟩
 have C_30:Cal l.prog w K mg base "is_family" 3 ["many", "thing"] (qi6 K) _ _:=⟨qif F_30 T C_48,W.mg_of X G a_30,k_30,b_30⟩
 have C_38:Cal l.prog w K mg base "names_in" 1 ["one"] qd9 _ _:=⟨qiq F_38 T ,W.mg_of X G a_38,k_38,b_38⟩
 have C_49:Cal l.prog w K mg base "set_of" 1 ["names"] (qit K) _ _:=⟨qlw F_49 T ,W.mg_of X G a_49,k_49,b_49⟩
 have C_50:Cal l.prog w K mg base "parted" 1 ["text", "sign"] qdW _ _:=⟨ql0 F_50 T ,W.mg_of X G a_50,k_50,b_50⟩
 have C_47:Cal l.prog w K mg base "is_word" 1 ["text"] qe0 _ _:=⟨qjH F_47 T ,W.mg_of X G a_47,k_47,b_47⟩
 have C_23:Cal l.prog w K mg base "read_names" 2 ["text"] (qdE K) _ _:=⟨qgJ F_23 T C_50 C_47,W.mg_of X G a_23,k_23,b_23⟩
 have C_31:Cal l.prog w K mg base "read_name" 1 ["words", "word"] (qdj K) _ _:=⟨qhF F_31 T ,W.mg_of X G a_31,k_31,b_31⟩
 have C_39:Cal l.prog w K mg base "show_set" 2 ["words", "one"] (qcZ K) _ _:=⟨qiJ F_39 T C_38,W.mg_of X G a_39,k_39,b_39⟩
 have C_14:Cal l.prog w K mg base "show_family" 3 ["words", "family"] (qe8 K) _ _:=⟨qf8 F_14 T C_39,W.mg_of X G a_14,k_14,b_14⟩
 have C_40:Cal l.prog w K mg base "read_set" 2 ["words", "text"] (qdI K) _ _:=⟨qiH F_40 T C_50 C_49 C_31,W.mg_of X G a_40,k_40,b_40⟩
 have C_15:Cal l.prog w K mg base "read_family" 4 ["words", "text"] (qf0 K) _ _:=⟨qf7 F_15 T C_50 C_40 C_30,W.mg_of X G a_15,k_15,b_15⟩
 have C_54:Cal l.prog w K mg base "holds" 1 ["one", "other"] qiX _ _:=⟨qm3 F_54 T ,W.mg_of X G a_54,k_54,b_54⟩
 have C_55:Cal l.prog w K mg base "meets" 1 ["one", "other"] qgG _ _:=⟨qmu F_55 T ,W.mg_of X G a_55,k_55,b_55⟩
 have C_60:Cal l.prog w K mg base "rest" 1 ["many", "one"] qlC _ _:=⟨qo6 F_60 T ,W.mg_of X G a_60,k_60,b_60⟩
 have C_61:Cal l.prog w K mg base "says" 2 ["family", "one"] (qgg K) _ _:=⟨qoa F_61 T C_54,W.mg_of X G a_61,k_61,b_61⟩
 have C_56:Cal l.prog w K mg base "least" 1 ["some"] qfE _ _:=⟨qmw F_56 T ,W.mg_of X G a_56,k_56,b_56⟩
 have C_57:Cal l.prog w K mg base "rests" 1 ["many", "family"] qfE _ _:=⟨qml F_57 T ,W.mg_of X G a_57,k_57,b_57⟩
 have C_10:Cal l.prog w K mg base "first_missed" 2 ["family", "one"] (qfk K) _ _:=⟨qfx F_10 T C_55,W.mg_of X G a_10,k_10,b_10⟩
 have C_62:Cal l.prog w K mg base "hits" 3 ["many", "family"] (qkX K) _ _:=⟨qof F_62 T C_61 C_10,W.mg_of X G a_62,k_62,b_62⟩
 have C_32:Cal l.prog w K mg base "always_in" 1 ["family", "k"] qfE _ _:=⟨qic F_32 T ,W.mg_of X G a_32,k_32,b_32⟩
 have C_24:Cal l.prog w K mg base "always_out" 1 ["family", "k"] qfE _ _:=⟨qg3 F_24 T ,W.mg_of X G a_24,k_24,b_24⟩
 have C_51:Cal l.prog w K mg base "either" 1 ["one", "other"] qfE _ _:=⟨qkt F_51 T ,W.mg_of X G a_51,k_51,b_51⟩
 have C_63:Cal l.prog w K mg base "both" 1 ["one", "other"] qfE _ _:=⟨qn3 F_63 T ,W.mg_of X G a_63,k_63,b_63⟩
 have C_00:Cal l.prog w K mg base "first_met_by_alone" 1 ["family", "one", "k"] (qiy K) _ _:=⟨qda F_00 T ,W.mg_of X G a_00,k_00,b_00⟩
 have C_52:Cal l.prog w K mg base "looked" 3 ["family", "one"] (qgE K) _ _:=⟨qld F_52 T C_10 C_38 C_00,W.mg_of X G a_52,k_52,b_52⟩
 have C_04:Cal l.prog w K mg base "first_left_out" 3 ["many", "one", "other"] (qku K) _ _:=⟨qep F_04 T C_61 C_60,W.mg_of X G a_04,k_04,b_04⟩
 have C_64:Cal l.prog w K mg base "held" 4 ["many", "one", "other"] (qkI K) _ _:=⟨qoj F_64 T C_04 C_10,W.mg_of X G a_64,k_64,b_64⟩
 have C_41:Cal l.prog w K mg base "table_of" 3 ["many", "family"] (qc0 K) _ _:=⟨qio F_41 T C_61,W.mg_of X G a_41,k_41,b_41⟩
 have C_07:Cal l.prog w K mg base "first_parting" 2 ["many", "table", "x", "y"] (qfJ K) _ _:=⟨qeQ F_07 T C_55,W.mg_of X G a_07,k_07,b_07⟩
 have C_16:Cal l.prog w K mg base "compared_in" 3 ["many", "table", "x", "y"] (qcr K) _ _:=⟨qf9 F_16 T C_07,W.mg_of X G a_16,k_16,b_16⟩
 have C_42:Cal l.prog w K mg base "compared" 4 ["many", "family", "x", "y"] (qev K) _ _:=⟨qiT F_42 T C_16 C_41,W.mg_of X G a_42,k_42,b_42⟩
 have C_33:Cal l.prog w K mg base "turned_by" 1 ["many", "table", "k"] (qgX K) _ _:=⟨qhE F_33 T ,W.mg_of X G a_33,k_33,b_33⟩
 have C_58:Cal l.prog w K mg base "turns" 4 ["many", "family"] (qg6 K) _ _:=⟨qmq F_58 T C_41 C_33,W.mg_of X G a_58,k_58,b_58⟩
 have C_11:Cal l.prog w K mg base "show_numbers" 1 ["numbers"] (qff K) _ _:=⟨qfT F_11 T ,W.mg_of X G a_11,k_11,b_11⟩
 have C_01:Cal l.prog w K mg base "show_word_and_sets" 3 ["words", "told"] (qgI K) _ _:=⟨qcW F_01 T C_39,W.mg_of X G a_01,k_01,b_01⟩
 have C_17:Cal l.prog w K mg base "show_looked" 4 ["words", "told"] (qmH K) _ _:=⟨qf5 F_17 T C_01 C_39,W.mg_of X G a_17,k_17,b_17⟩
 have C_53:Cal l.prog w K mg base "ranked" 1 ["counts"] (qho K) _ _:=⟨qlA F_53 T ,W.mg_of X G a_53,k_53,b_53⟩
 have C_59:Cal l.prog w K mg base "ranks" 5 ["many", "family"] (qi4 K) _ _:=⟨qma F_59 T C_41 C_53 C_16 C_58,W.mg_of X G a_59,k_59,b_59⟩
 have C_25:Cal l.prog w K mg base "show_alike" 1 ["words", "names"] (qr2 K) _ _:=⟨qg4 F_25 T ,W.mg_of X G a_25,k_25,b_25⟩
 have C_26:Cal l.prog w K mg base "show_ranks" 2 ["words", "told"] (qom K) _ _:=⟨qhn F_26 T C_25,W.mg_of X G a_26,k_26,b_26⟩
 have C_27:Cal l.prog w K mg base "by_weights" 1 ["many", "family"] qfE _ _:=⟨qgS F_27 T ,W.mg_of X G a_27,k_27,b_27⟩
 have C_12:Cal l.prog w K mg base "show_weights" 1 ["words", "told"] qfE _ _:=⟨qfO F_12 T ,W.mg_of X G a_12,k_12,b_12⟩
 have C_03:Cal l.prog w K mg base "compared_unlike" 5 ["many", "family", "x", "y"] (qpu K) _ _:=⟨qdV F_03 T C_42,W.mg_of X G a_03,k_03,b_03⟩
 have C_43:Cal l.prog w K mg base "new_name" 2 ["word"] qfD _ _:=⟨qiv F_43 T C_47,W.mg_of X G a_43,k_43,b_43⟩
 have C_44:Cal l.prog w K mg base "parts_of" 1 ["row"] (qe2 K) _ _:=⟨qiL F_44 T Z ,W.mg_of X G a_44,k_44,b_44⟩
 have C_08:qoC l.prog w K mg base cD 3 ["self", "text"] (qkv cD) _ _:=⟨qeR F_08 T Z C_23,⟨mkD,a_08,i_08,kpD⟩,b_08⟩
 have C_05:qfe l.prog w K mg base cD "family_by" 1 ["self", "word"] (qiw cD) _ _:=⟨qek F_05 T Z ,⟨a_05,i_05,k_05⟩,b_05⟩
 have C_02:qfe l.prog w K mg base cD "look_for_room" 1 ["self", "name"] (qkp cD) _ _:=⟨qc7 F_02 T Z ,⟨a_02,i_02,k_02⟩,b_02⟩
 have C_09:qfe l.prog w K mg base cD "thing_of" 5 ["self", "kind", "word"] (qix cD) _ _:=⟨qeM F_09 T Z C_15 C_43 C_05 C_31 C_40,⟨a_09,i_09,k_09⟩,b_09⟩
 have C_65:Cal l.prog w K mg base "made" 4 ["many", "deed", "things"] (qlD K) _ _:=⟨qoy F_65 T C_24 C_62 C_57 C_51 C_63 C_32,W.mg_of X G a_65,k_65,b_65⟩
 have C_45:Cal l.prog w K mg base "answered" 6 ["words", "deed", "things"] (qeu K) _ _:=⟨qis F_45 T C_12 C_14 C_17 C_01 C_11 C_26 C_27 C_61 C_52 C_64 C_03 C_58 C_59,W.mg_of X G a_45,k_45,b_45⟩
 have C_46:qfe l.prog w K mg base cD "say" 7 ["self", "row"] (qkr cD) _ _:=⟨qin F_46 T Z C_44 C_45 C_09 C_02 C_65,⟨a_46,i_46,k_46⟩,b_46⟩
 have C_18:Cal l.prog w K mg base "_law_looked" 8 ["_law_desk", "_law_words_here", "_law_name", "_law_family_here", "_law_one"] (qfM cD) _ _:=⟨qgc F_18 T Z C_36 C_46 C_06,W.mg_of X G a_18,k_18,b_18⟩
 have C_34:Cal l.prog w K mg base "_law_said" 8 ["_law_desk", "_law_words_here", "_law_name", "_law_family_here", "_law_found"] (qim cD) _ _:=⟨qhZ F_34 T Z C_46 C_22 C_06,W.mg_of X G a_34,k_34,b_34⟩
 exact qqB F_law T Z C_19 C_20 C_21 C_08 C_28 C_37 C_46 C_29 C_18 C_34
theorem walk {l:W.OpenLaw} {q:Program} {loose:List Str} {XP:(Str→Option Value)→Heap→Prop} {YP:World→Heap→Prop} {d:DefRec} {K:Params→W.Frag} (hn:l.most=some 63) (hdf:d.params.defaults=[])
   (hY:∀(w:World) (h:Heap),YP w h→(K w.params).In h)
   (F:∀(w:World) (mg:Str→Option Value) (fa:Addr) (h:Heap),(K w.params).In h→h.Ns mainGlobals mg→mg d.name=some (.ref fa) →
     ∃fd:FuncData,(∀(s:Shared) (u:Value),BindsTo s fd ⟨[u],[]⟩ [("_law_script",u)])∧∀base:Heap,(K w.params).In base→base.Ns mainGlobals mg→qaZ l.prog w (K w.params) mg base CX0 9 fa fd ["_law_script"] ((qlM (K w.params)))) :
   W.WalkO q loose XP YP l.row.toRowW d [] (fun f vs=>PySem.call f vs) :=
 L2.walk_of (n:=63) (k:=9) (x := "_law_script") (CX:=fun _=>CX0) (sp:=fun w=>(qlM (K w.params))) hn (by decide) hdf ⟨rfl,by decide,by decide⟩ hY F (fun _ _ a ns hl _ hS=>⟨_,rfl,a,ns,rfl,hS,hl,fun _=>rfl⟩) fun _ _ _ _ _ z=>z
end Zk52
namespace PySem.W.Fast
def tw13158929824211995751:=0
def tw31890095751144038:=0
def tw4677537865702096478:=0
def tw1241511502124789974:=0
def tw16852971778474708203:=0
def tw1249175421768388365:=0
def tw6628995898594129695:=0
def tw17157912671457555169:=0
def tw4758584059475314955:=0
def tw7702859807269517962:=0
def tw4598475355165473583:=0
def tw16218610662443304829:=0
def tw412580647718540209:=0
def tw15171909540716138096:=0
def tw16320626558563210530:=0
def tw4703087108997990323:=0
def tw16521357390877766757:=0
def tw9536494003270299113:=0
def tw5045995083797526439:=0
def tw1325105782994603899:=0
def tw11114199766092500363:=0
def tw18289515238833636246:=0
def tw9426869738775892981:=0
def tw6020976659272324082:=0
def tw579898847728989432:=0
def tw1776677359437296481:=0
def tw11552056990352430625:=0
def tw2929767487861009970:=0
def tw13166732654574891771:=0
def tw6273135840606075502:=0
def tw2667078117712811428:=0
def tw3038159747143357712:=0
def tw139546055166611086:=0
def tw3078432992864490304:=0
def tw11922519852905257523:=0
def tw15814658990858226064:=0
def tw6616480257179061001:=0
def tw17778859135033011930:=0
def tw670546264976526686:=0
def tw7437695825400312362:=0
def tw18164807833200892164:=0
def tw10059622343268433806:=0
def tw594554955080963644:=0
def tw11126737537615219551:=0
def tw9823051856656239361:=0
def tw11681438888975064889:=0
def tw6783015024374700461:=0
def tw9255180898985024399:=0
def tw9142603490134374537:=0
def tw5778104806894757260:=0
def tw6224642029238665604:=0
def tw4198109891925622369:=0
def tw9904969279467680959:=0
def tw15721073263719983595:=0
def tw8156648371814081579:=0
def tw2500541353510888445:=0
def tw7253496304526104134:=0
def tw7034577282858444729:=0
def tw979064911528354227:=0
def tw6426164951982756475:=0
def tw3898838090106828013:=0
def tw5348554892658707544:=0
def tw16465936861951765112:=0
def tw15146779644920100259:=0
def tw17210770806720640039:=0
def tw17994148651103345150:=0
def tw4500656317974778777:=0
def tw5526521865357656948:=0
def tw4018005387383677031:=0
def tw14931782192838338673:=0
def tw5622176688934929354:=0
def tw12397181627280934157:=0
def tw7739054701154207095:=0
def tw1733589484654286054:=0
def tw423095359227020464:=0
def tw17905984352120396647:=0
def tw16109960766979701616:=0
def tw1689473184252392922:=0
def tw8726958842691061117:=0
def tw5818793049022087504:=0
def tw2035086497672341382:=0
def tw15538414421290940982:=0
def tw7308563623319708995:=0
def tw5592735903400656244:=0
def tw12244712403983237540:=0
def tw7941423188094755784:=0
def tw9838013512007413254:=0
def tw3829962342019640971:=0
def tw17581743699051046445:=0
def tw7411335716132551448:=0
def tw5566817098269016002:=0
def tw10584440534785026112:=0
def tw14798608386003749424:=0
def tw5118339437281678973:=0
def tw3062374052284965078:=0
def tw6999280505983860776:=0
def tw16593229842844503124:=0
def tw9515575267142044332:=0
def tw1407716264453700604:=0
def tw6573301458301035443:=0
def tw824999905903263139:=0
def tw10805973444392069759:=0
def tw596807536607682325:=0
def tw15942632635748582361:=0
def tw11860963100958619740:=0
def tw826193986938698599:=0
def tw5223924629231073913:=0
def tw17709792506843868985:=0
def tw2591403841645604446:=0
def tw16189434203281934104:=0
def tw6903066948341330623:=0
def tw3047323626684508238:=0
def tw18313277836169474663:=0
def tw11436675733761471815:=0
def tw13790947820976105285:=0
def tw7732520495163348870:=0
def tw16117095260771158426:=0
def tw15106959618236285633:=0
def tw5830514909631277667:=0
def tw5363044988244271315:=0
def tw5497318998779175564:=0
def tw9652537832367067796:=0
def tw17731262481716434648:=0
def tw8392172088470293849:=0
def tw11455890711235960208:=0
def tw15667097585190578418:=0
def tw15046323509188015267:=0
def tw14124579730206714763:=0
def tw13563635259269033738:=0
def tw14695455397802259597:=0
def tw17753656859425675514:=0
def tw1815988304307990437:=0
def tw1933273332972837373:=0
def tw2363604158714377610:=0
def tw15039680067427740235:=0
def tw10232072563442596809:=0
def tw8689823413003075867:=0
def tw5770479186265807714:=0
def tw16751490611452724237:=0
def tw10968956517290211764:=0
def tw8561249410189218601:=0
def tw4727697934356407081:=0
def tw13756066112790875135:=0
def tw16667553359342661662:=0
def tw2814033035724475367:=0
def tw1066845717593464824:=0
def tw18320618060603111936:=0
def tw12390277290476432419:=0
def tw11545026715992657634:=0
def tw5193994079188456998:=0
def tw11123597402840697747:=0
def tw13666783144451873030:=0
def tw17314324046291790349:=0
def tw11529880382036257140:=0
def tw16665079235222812450:=0
def tw6991984270972371750:=0
def tw327806022056740456:=0
def tw11634945268185021380:=0
def tw3531476187356514412:=0
def tw9208939692983617888:=0
def tw9141801458672946508:=0
def tw512654103841911794:=0
def tw10743492241650482677:=0
def tw1645160703029641818:=0
def tw11721848758540260674:=0
def tw18446070805693647101:=0
def tw15921854879862357989:=0
def tw10451430160303627948:=0
def tw1998761754626354298:=0
def tw8083035591856757974:=0
def tw13112804759860436661:=0
def tw1103677392641563623:=0
def tw17493852823319039657:=0
def tw17383938467620030374:=0
def tw6839393441273364573:=0
def tw5954859926274025806:=0
def tw15378925895469062503:=0
def tw13317692458002882623:=0
def tw1752105669197803003:=0
def tw7935749136672742929:=0
def tw13155159957680448001:=0
def tw15696365093226837632:=0
def tw3673385790270197866:=0
def tw18156170443328897083:=0
def tw11400283490266567515:=0
def tw9026905601210288474:=0
def tw4909163402394707396:=0
def tw14650005685254310141:=0
def tw11456529232247108125:=0
def tw13296280162741989779:=0
def tw15478811384202836482:=0
def tw14883815298044731216:=0
def tw8949953207497933714:=0
def tw11625665392293273086:=0
def tw1979856615483091990:=0
def tw5276538838512891387:=0
def tw17818363481040705064:=0
def tw3712604732463199174:=0
def tw10078960401441770228:=0
def tw8105042562977038420:=0
def tw16134766939254834154:=0
def tw13306322356710651277:=0
def tw5922586053912777549:=0
def tw17959823989154654550:=0
def tw2800017686665660586:=0
def tw1666658375040557709:=0
def tw17626562166942855326:=0
def tw3794991618641470472:=0
def tw10394347396491669375:=0
def tw10284733812890915995:=0
def tw11559785272558898703:=0
def tw6828175999851553783:=0
def tw8837098724317418827:=0
def tw17264165806411858602:=0
def tw2499354830973756726:=0
def tw14210083399389528637:=0
def tw7114253340453375121:=0
def tw14162531275772699227:=0
def tw15989431323157932929:=0
def tw1854310516699938373:=0
def tw14983886699583035897:=0
def tw11008824425323544465:=0
def tw8493671910996683853:=0
def tw1669220069494370602:=0
def tw17765172054814063879:=0
def tw17220504231554209001:=0
def tw233467375957108018:=0
def tw15963174404466972209:=0
def tw2232625736459795623:=0
def tw11639455399754164048:=0
def tw4777914235324979526:=0
def tw7728099019032545413:=0
def tw10637699646086212744:=0
def tw17292476931925526322:=0
def tw10277885328877698608:=0
def tw17550207205014015500:=0
def tw17228415358033006731:=0
def tw5291654153983003105:=0
def tw3339233680593383428:=0
def tw16204617772114296443:=0
def tw17284791130487757410:=0
def tw4477962112335428840:=0
def tw14121816971139339773:=0
def tw3544752354087357322:=0
def tw1205351081045766361:=0
def tw4726967422103395773:=0
def tw13574233885453585496:=0
def tw14576052315220971242:=0
def tw2137417135747927626:=0
def tw11226007865862477567:=0
def tw15822454350134656034:=0
def tw5026268592223256365:=0
def tw7081444591918853108:=0
def tw14504318058295245079:=0
def tw3593584347330494896:=0
def tw9396181005332668126:=0
def tw2018703276190877638:=0
def tw8895895669926117990:=0
def tw2355294031756691265:=0
def tw9583524734019285143:=0
def tw10124867075126560159:=0
def tw11243624968900830772:=0
def tw7484672273561645780:=0
def tw1371475944265103478:=0
def tw9592640139487887480:=0
def tw7155530200671465970:=0
def tw17635998822046286171:=0
def tw18383531837704496480:=0
def tw141197032429890197:=0
def tw7298537162453630587:=0
def tw10734814544335774470:=0
def tw15130850612253702254:=0
def tw953445382532491023:=0
def tw10409043352340187176:=0
def tw8240954299122413906:=0
def tw6757650705837902879:=0
def tw14759510927918066088:=0
def tw15156745620817182950:=0
def tw110382284948698484:=0
def tw18352402615254769312:=0
def tw4876697347660525923:=0
def tw3443256962582563876:=0
def tw12955798365371953284:=0
def tw11799253984036387612:=0
def tw4270074982380503235:=0
def tw9085496822244987890:=0
def tw1091228513706666219:=0
def tw10902191666163454041:=0
def tw10468800891035905648:=0
def tw18404246144885145468:=0
def tw3356333520946817640:=0
def tw16496136218671956803:=0
def tw15884918888280658055:=0
def tw4149106288271441735:=0
def tw10065845743707242948:=0
def tw16449431114675052753:=0
def tw2890298678473283460:=0
def tw6833320446464479496:=0
def tw9366105815937302095:=0
def tw15037321872470190287:=0
def tw9475065983642575578:=0
def tw16143668673042197239:=0
def tw11459179706726582772:=0
def tw9539101622668139355:=0
def tw10252880199683534489:=0
def tw17048219865666375363:=0
def tw13212976388581256330:=0
def tw17874304977627300505:=0
def tw1285457888026061684:=0
def tw14254444726391406089:=0
def tw2024300091358397799:=0
def tw1841067437268989728:=0
def tw10197085645231029996:=0
def tw16382316843191622114:=0
def tw7215363572495855162:=0
def tw7670840155967161526:=0
def tw8712658177151723000:=0
def tw16051779115755344791:=0
def tw6868093734148145939:=0
def tw6905396477886845993:=0
def tw2587528895418347344:=0
def tw724238275655689891:=0
def tw10048310178314652467:=0
def tw13884228387872723549:=0
def tw2589576044169587680:=0
def tw18051983705676726357:=0
def tw17347745883431859836:=0
def tw10540092117509174414:=0
def tw16085928368977857379:=0
def tw2921895406370385118:=0
def tw4974467583949065166:=0
def tw6010385101635029654:=0
def tw4247069376285891349:=0
def tw4369843696795430031:=0
def tw1106859368754569820:=0
def tw17390189845191880301:=0
def tw1251094871222886027:=0
def tw15474655686457855176:=0
def tw18331976730589961174:=0
def tw9688240948848107830:=0
def tw8270731533123574801:=0
def tw8643639662425312613:=0
def tw5736575940389456990:=0
def tw10246528944614388622:=0
def tw191124267268701882:=0
def tw5460732451319154147:=0
def tw17859044092806052160:=0
def tw13262609335614494651:=0
def tw9557833114367865635:=0
def tw15846727388410970494:=0
def tw13194337528243437652:=0
def tw16519514910825817381:=0
def tw3206641436927620600:=0
def tw5373399329709319876:=0
def tw18440800885849437862:=0
def tw11992496380673009991:=0
def tw4667962250974433179:=0
def tw11884158390887950834:=0
def tw12847272073499304341:=0
def tw4015545454864601783:=0
def tw15103705665645368381:=0
def tw4237738796385228794:=0
def tw10305128539226325417:=0
def tw5613249999910127135:=0
def tw8858385681834656870:=0
def tw15313637591638985500:=0
def tw17257432843088780726:=0
def tw15085020607559369294:=0
def tw1783422971811944939:=0
def tw7006287426353287413:=0
def tw8010389047291536238:=0
def tw2522385611131311905:=0
def tw16650794665938013369:=0
def tw9814885641708941280:=0
def tw15173076910338525663:=0
def tw18134385867874389618:=0
def tw8029476841426210763:=0
def tw8829792386139161280:=0
def tw6378992237165054744:=0
def tw6437127871844023826:=0
def tw14780342085670924020:=0
def tw3286236089915621147:=0
def tw6717484150633037021:=0
def tw13318641243925902054:=0
def tw13893349156022663026:=0
def tw3784174448666729122:=0
def tw7874666944468215756:=0
def tw10385493482345366020:=0
def tw6707806650720128606:=0
def tw3933328363015037973:=0
def tw6420458086615243107:=0
def tw18039843603050532594:=0
def tw14691089901619429651:=0
def tw2362830764807319069:=0
def tw11872534352314818584:=0
def tw8358678523726133509:=0
def tw15792239773247967220:=0
def tw16962915595676680104:=0
def tw323340151036663683:=0
def tw2494636383340880328:=0
def tw17750289485480463322:=0
def tw8952156331555871729:=0
def tw12820645164812513220:=0
def tw14318785438537046743:=0
def tw10390446278252755451:=0
def tw10171187344062483370:=0
def tw17225498833846527702:=0
def tw8492338676937321548:=0
def tw17276778184096812419:=0
def tw12234862144834892082:=0
def tw12098719668877285900:=0
def tw13421845271567559336:=0
def tw17322720859572766979:=0
def tw2613603949997794773:=0
def tw10166102686618135611:=0
def tw10345275631560864793:=0
def tw12278088260968065267:=0
def tw9042401856964029654:=0
def tw9745566311418274675:=0
def tw3999166511939453256:=0
def tw10937708200102342391:=0
def tw17911704219231348236:=0
def tw5291338760034585392:=0
def tw8273007690908556933:=0
def tw3146250337488353189:=0
def tw14590814905881543690:=0
def tw13326780212776467653:=0
def tw370250970393381309:=0
def tw9461538402071591707:=0
def tw14652175739329792398:=0
def tw7290204779693329739:=0
def tw2818912110608721421:=0
def tw15170622499057073638:=0
def tw12925700453137051902:=0
def tw1260600141689171661:=0
def tw18100901632336408121:=0
def tw531059915278320137:=0
def tw1004376412313092607:=0
def tw1978546804993189075:=0
def tw5055597862863109307:=0
def tw18096963926952192478:=0
def tw12586084197193405828:=0
def tw11406251093398193068:=0
def tw11068112218075817442:=0
def tw2745675522745328211:=0
def tw101730463193340358:=0
def tw5413775823754669902:=0
def tw10456684205321731546:=0
def tw16513486003028005270:=0
def tw2659838437737259493:=0
def tw7022283916009686157:=0
def tw15936273632362968355:=0
def tw10848204459714136271:=0
def tw7063891470999167600:=0
def tw1614374426451247766:=0
def tw15521388065419744849:=0
def tw9031394191979600712:=0
def tw7755707480014402265:=0
def tw12391167966195088698:=0
def tw3684800901133101291:=0
def tw5599633205356110366:=0
def tw10864942440234227349:=0
def tw12332388586196443970:=0
def tw967875516843260489:=0
def tw11811226769653285845:=0
def tw5198572658695568439:=0
def tw13816886358589536231:=0
def tw11439095325566438759:=0
def tw6414091980228987586:=0
def tw14164556476628094437:=0
def tw1680770930266722636:=0
def tw6463168540541091068:=0
def tw11914197398516466855:=0
def tw5459022645848255580:=0
def tw11309389628212351828:=0
def tw3228380138521185889:=0
def tw15307517725782256274:=0
def tw13915284821582874002:=0
def tw14688591189359018116:=0
def tw12814634003072468405:=0
def tw2535795382658887465:=0
def tw198484428564870888:=0
def tw13471837758696956804:=0
def tw14080941275284766967:=0
def tw4129902499351481843:=0
def tw9629709378083833986:=0
def tw12390029409772357671:=0
def tw13998055761456274189:=0
def tw10519245481003306535:=0
def tw8496172547946365681:=0
def tw2421099199102695349:=0
def tw14171009648607981196:=0
def tw7856416121955482189:=0
def tw9348291426120980979:=0
def tw10841763103542610589:=0
def tw2639334534103824263:=0
def tw13884935718068403174:=0
def tw2123937543910381467:=0
def tw12013908823442807361:=0
def tw9568517635059015226:=0
def tw1805260855157116718:=0
def tw5409197801401352595:=0
def tw5698465677867905491:=0
def tw16921956283769392568:=0
def tw6174064562004864987:=0
def tw8626226940437368108:=0
def tw6936586168365961204:=0
def tw13636533127210953216:=0
def tw16334473955580417726:=0
def tw15556701492517000286:=0
def tw50832058442570533:=0
def tw4355542025620656297:=0
def tw15481403289947374215:=0
def tw4629394210504286192:=0
def tw8464933818963855314:=0
def tw2875805550775728549:=0
def tw18088329870021873754:=0
def tw6336850160300325548:=0
def tw4016889160619920984:=0
def tw3993128668173580765:=0
def tw12624088140066287183:=0
def tw9465711181362864912:=0
def tw12770912662481655559:=0
def tw616656952034145435:=0
def tw12247989501621513497:=0
def tw2408800101290990961:=0
def tw69365379446999350:=0
def tw5777666247404898869:=0
def tw19318541098639611:=0
def tw7150473554140875206:=0
end PySem.W.Fast
open PySem PySem.W PyProof.Rows
set_option maxRecDepth 100000 in
set_option maxHeartbeats 0 in
theorem PySem.Challenge.cw_allhits_k52_whole_hits_by_text_holds : PySem.Challenge.rw_allhits_k52_whole_hits_by_text.Holds := by
 w_on;o_law;k_head;(case hw=>w_witness2)
 k_fill
 refine Zk52.walk (l:=PySem.Challenge.rw_allhits_k52_whole_hits_by_text) rfl rfl (fun w h Y=>W.kIn_of Y) ?F
 case F =>
   intro w mg fa h KX G hmg
   refine' Zk52.all_mk KX G hmg ?a_35 ?l_35 ?c_35 ?k_35 ?a_19 ?l_19 ?c_19 ?k_19 ?a_13 ?l_13 ?c_13 ?k_13 ?a_20 ?l_20 ?c_20 ?k_20 ?a_21 ?l_21 ?c_21 ?k_21 ?a_06 ?l_06 ?c_06 ?k_06 ?a_28 ?l_28 ?c_28 ?k_28 ?a_36 ?l_36 ?c_36 ?k_36 ?a_29 ?l_29 ?c_29 ?k_29 ?a_22 ?l_22 ?c_22 ?k_22 ?a_37 ?l_37 ?c_37 ?k_37 ?a_48 ?l_48 ?c_48 ?k_48 ?a_30 ?l_30 ?c_30 ?k_30 ?a_38 ?l_38 ?c_38 ?k_38 ?a_49 ?l_49 ?c_49 ?k_49 ?a_50 ?l_50 ?c_50 ?k_50 ?a_47 ?l_47 ?c_47 ?k_47 ?a_23 ?l_23 ?c_23 ?k_23 ?a_31 ?l_31 ?c_31 ?k_31 ?a_39 ?l_39 ?c_39 ?k_39 ?a_14 ?l_14 ?c_14 ?k_14 ?a_40 ?l_40 ?c_40 ?k_40 ?a_15 ?l_15 ?c_15 ?k_15 ?a_54 ?l_54 ?c_54 ?k_54 ?a_55 ?l_55 ?c_55 ?k_55 ?a_60 ?l_60 ?c_60 ?k_60 ?a_61 ?l_61 ?c_61 ?k_61 ?a_56 ?l_56 ?c_56 ?k_56 ?a_57 ?l_57 ?c_57 ?k_57 ?a_10 ?l_10 ?c_10 ?k_10 ?a_62 ?l_62 ?c_62 ?k_62 ?a_32 ?l_32 ?c_32 ?k_32 ?a_24 ?l_24 ?c_24 ?k_24 ?a_51 ?l_51 ?c_51 ?k_51 ?a_63 ?l_63 ?c_63 ?k_63 ?a_00 ?l_00 ?c_00 ?k_00 ?a_52 ?l_52 ?c_52 ?k_52 ?a_04 ?l_04 ?c_04 ?k_04 ?a_64 ?l_64 ?c_64 ?k_64 ?a_41 ?l_41 ?c_41 ?k_41 ?a_07 ?l_07 ?c_07 ?k_07 ?a_16 ?l_16 ?c_16 ?k_16 ?a_42 ?l_42 ?c_42 ?k_42 ?a_33 ?l_33 ?c_33 ?k_33 ?a_58 ?l_58 ?c_58 ?k_58 ?a_11 ?l_11 ?c_11 ?k_11 ?a_01 ?l_01 ?c_01 ?k_01 ?a_17 ?l_17 ?c_17 ?k_17 ?a_53 ?l_53 ?c_53 ?k_53 ?a_59 ?l_59 ?c_59 ?k_59 ?a_25 ?l_25 ?c_25 ?k_25 ?a_26 ?l_26 ?c_26 ?k_26 ?a_27 ?l_27 ?c_27 ?k_27 ?a_12 ?l_12 ?c_12 ?k_12 ?a_03 ?l_03 ?c_03 ?k_03 ?a_43 ?l_43 ?c_43 ?k_43 ?a_44 ?l_44 ?c_44 ?k_44 ?a_08 ?i_08 ?l_08 ?c_08 ?k_08 ?a_05 ?i_05 ?l_05 ?c_05 ?k_05 ?a_02 ?i_02 ?l_02 ?c_02 ?k_02 ?a_09 ?i_09 ?l_09 ?c_09 ?k_09 ?a_65 ?l_65 ?c_65 ?k_65 ?a_45 ?l_45 ?c_45 ?k_45 ?a_46 ?i_46 ?l_46 ?c_46 ?k_46 ?a_18 ?l_18 ?c_18 ?k_18 ?a_34 ?l_34 ?c_34 ?k_34 ?a_law ?l_law ?c_law ?k_law ?z_isinstance ?z_int ?z_bool ?z_len ?z_sum ?z_sorted ?z_set ?z_range ?z_list ?z_str ?z_all ?z_reversed ?z_enumerate ?z_zip ?v_MOST_SETS ?v_MOST_LETTERS ?v_MOST_NAMES ?v_NO_SETS ?v_NO_NAMES ?v_MOST_KEPT ?gD ?gW ?lW ?nW ?eW1 ?lW1 ?eW2 ?lW2 ?eW3 ?lW3 ?eW4 ?lW4 ?eW5 ?lW5 ?eW6 ?lW6 ?eW7 ?lW7 ?eW8 ?lW8 ?eW9 ?lW9 ?eW10 ?lW10 ?eW11 ?lW11 ?eW12 ?lW12 ?eW13 ?lW13 ?eW14 ?lW14 ?eW15 ?lW15 ?pgD ?hdD ?poD ?saD ?nwD ?nkD ?mkD ?kpD
   case gD=>k_is
   case gW=>k_is
   case lW=>k_is
   case a_35=>k_is
   case l_35=>k_is
   case c_35=>k_is
   case k_35=>k_is
   case a_19=>k_is
   case l_19=>k_is
   case c_19=>k_is
   case k_19=>k_is
   case a_13=>k_is
   case l_13=>k_is
   case c_13=>k_is
   case k_13=>k_is
   case a_20=>k_is
   case l_20=>k_is
   case c_20=>k_is
   case k_20=>k_is
   case a_21=>k_is
   case l_21=>k_is
   case c_21=>k_is
   case k_21=>k_is
   case a_06=>k_is
   case l_06=>k_is
   case c_06=>k_is
   case k_06=>k_is
   case a_28=>k_is
   case l_28=>k_is
   case c_28=>k_is
   case k_28=>k_is
   case a_36=>k_is
   case l_36=>k_is
   case c_36=>k_is
   case k_36=>k_is
   case a_29=>k_is
   case l_29=>k_is
   case c_29=>k_is
   case k_29=>k_is
   case a_22=>k_is
   case l_22=>k_is
   case c_22=>k_is
   case k_22=>k_is
   case a_37=>k_is
   case l_37=>k_is
   case c_37=>k_is
   case k_37=>k_is
   case a_48=>k_is
   case l_48=>k_is
   case c_48=>k_is
   case k_48=>k_is
   case a_30=>k_is
   case l_30=>k_is
   case c_30=>k_is
   case k_30=>k_is
   case a_38=>k_is
   case l_38=>k_is
   case c_38=>k_is
   case k_38=>k_is
   case a_49=>k_is
   case l_49=>k_is
   case c_49=>k_is
   case k_49=>k_is
   case a_50=>k_is
   case l_50=>k_is
   case c_50=>k_is
   case k_50=>k_is
   case a_47=>k_is
   case l_47=>k_is
   case c_47=>k_is
   case k_47=>k_is
   case a_23=>k_is
   case l_23=>k_is
   case c_23=>k_is
   case k_23=>k_is
   case a_31=>k_is
   case l_31=>k_is
   case c_31=>k_is
   case k_31=>k_is
   case a_39=>k_is
   case l_39=>k_is
   case c_39=>k_is
   case k_39=>k_is
   case a_14=>k_is
   case l_14=>k_is
   case c_14=>k_is
   case k_14=>k_is
   case a_40=>k_is
   case l_40=>k_is
   case c_40=>k_is
   case k_40=>k_is
   case a_15=>k_is
   case l_15=>k_is
   case c_15=>k_is
   case k_15=>k_is
   case a_54=>k_is
   case l_54=>k_is
   case c_54=>k_is
   case k_54=>k_is
   case a_55=>k_is
   case l_55=>k_is
   case c_55=>k_is
   case k_55=>k_is
   case a_60=>k_is
   case l_60=>k_is
   case c_60=>k_is
   case k_60=>k_is
   case a_61=>k_is
   case l_61=>k_is
   case c_61=>k_is
   case k_61=>k_is
   case a_56=>k_is
   case l_56=>k_is
   case c_56=>k_is
   case k_56=>k_is
   case a_57=>k_is
   case l_57=>k_is
   case c_57=>k_is
   case k_57=>k_is
   case a_10=>k_is
   case l_10=>k_is
   case c_10=>k_is
   case k_10=>k_is
   case a_62=>k_is
   case l_62=>k_is
   case c_62=>k_is
   case k_62=>k_is
   case a_32=>k_is
   case l_32=>k_is
   case c_32=>k_is
   case k_32=>k_is
   case a_24=>k_is
   case l_24=>k_is
   case c_24=>k_is
   case k_24=>k_is
   case a_51=>k_is
   case l_51=>k_is
   case c_51=>k_is
   case k_51=>k_is
   case a_63=>k_is
   case l_63=>k_is
   case c_63=>k_is
   case k_63=>k_is
   case a_00=>k_is
   case l_00=>k_is
   case c_00=>k_is
   case k_00=>k_is
   case a_52=>k_is
   case l_52=>k_is
   case c_52=>k_is
   case k_52=>k_is
   case a_04=>k_is
   case l_04=>k_is
   case c_04=>k_is
   case k_04=>k_is
   case a_64=>k_is
   case l_64=>k_is
   case c_64=>k_is
   case k_64=>k_is
   case a_41=>k_is
   case l_41=>k_is
   case c_41=>k_is
   case k_41=>k_is
   case a_07=>k_is
   case l_07=>k_is
   case c_07=>k_is
   case k_07=>k_is
   case a_16=>k_is
   case l_16=>k_is
   case c_16=>k_is
   case k_16=>k_is
   case a_42=>k_is
   case l_42=>k_is
   case c_42=>k_is
   case k_42=>k_is
   case a_33=>k_is
   case l_33=>k_is
   case c_33=>k_is
   case k_33=>k_is
   case a_58=>k_is
   case l_58=>k_is
   case c_58=>k_is
   case k_58=>k_is
   case a_11=>k_is
   case l_11=>k_is
   case c_11=>k_is
   case k_11=>k_is
   case a_01=>k_is
   case l_01=>k_is
   case c_01=>k_is
   case k_01=>k_is
   case a_17=>k_is
   case l_17=>k_is
   case c_17=>k_is
   case k_17=>k_is
   case a_53=>k_is
   case l_53=>k_is
   case c_53=>k_is
   case k_53=>k_is
   case a_59=>k_is
   case l_59=>k_is
   case c_59=>k_is
   case k_59=>k_is
   case a_25=>k_is
   case l_25=>k_is
   case c_25=>k_is
   case k_25=>k_is
   case a_26=>k_is
   case l_26=>k_is
   case c_26=>k_is
   case k_26=>k_is
   case a_27=>k_is
   case l_27=>k_is
   case c_27=>k_is
   case k_27=>k_is
   case a_12=>k_is
   case l_12=>k_is
   case c_12=>k_is
   case k_12=>k_is
   case a_03=>k_is
   case l_03=>k_is
   case c_03=>k_is
   case k_03=>k_is
   case a_43=>k_is
   case l_43=>k_is
   case c_43=>k_is
   case k_43=>k_is
   case a_44=>k_is
   case l_44=>k_is
   case c_44=>k_is
   case k_44=>k_is
   case a_08=>k_is
   case i_08=>k_is
   case l_08=>k_is
   case c_08=>k_is
   case k_08=>k_is
   case a_05=>k_is
   case i_05=>k_is
   case l_05=>k_is
   case c_05=>k_is
   case k_05=>k_is
   case a_02=>k_is
   case i_02=>k_is
   case l_02=>k_is
   case c_02=>k_is
   case k_02=>k_is
   case a_09=>k_is
   case i_09=>k_is
   case l_09=>k_is
   case c_09=>k_is
   case k_09=>k_is
   case a_65=>k_is
   case l_65=>k_is
   case c_65=>k_is
   case k_65=>k_is
   case a_45=>k_is
   case l_45=>k_is
   case c_45=>k_is
   case k_45=>k_is
   case a_46=>k_is
   case i_46=>k_is
   case l_46=>k_is
   case c_46=>k_is
   case k_46=>k_is
   case a_18=>k_is
   case l_18=>k_is
   case c_18=>k_is
   case k_18=>k_is
   case a_34=>k_is
   case l_34=>k_is
   case c_34=>k_is
   case k_34=>k_is
   case a_law=>k_is
   case l_law=>k_is
   case c_law=>k_is
   case k_law=>k_is
   case z_isinstance=>k_is
   case z_int=>k_is
   case z_bool=>k_is
   case z_len=>k_is
   case z_sum=>k_is
   case z_sorted=>k_is
   case z_set=>k_is
   case z_range=>k_is
   case z_list=>k_is
   case z_str=>k_is
   case z_all=>k_is
   case z_reversed=>k_is
   case z_enumerate=>k_is
   case z_zip=>k_is
   case v_MOST_SETS=>k_is
   case v_MOST_LETTERS=>k_is
   case v_MOST_NAMES=>k_is
   case v_NO_SETS=>k_is
   case v_NO_NAMES=>k_is
   case v_MOST_KEPT=>k_is
   case nW=>rfl
   case eW1=>rfl
   case lW1=>k_is
   case eW2=>rfl
   case lW2=>k_is
   case eW3=>rfl
   case lW3=>k_is
   case eW4=>rfl
   case lW4=>k_is
   case eW5=>rfl
   case lW5=>k_is
   case eW6=>rfl
   case lW6=>k_is
   case eW7=>rfl
   case lW7=>k_is
   case eW8=>rfl
   case lW8=>k_is
   case eW9=>rfl
   case lW9=>k_is
   case eW10=>rfl
   case lW10=>k_is
   case eW11=>rfl
   case lW11=>k_is
   case eW12=>rfl
   case lW12=>k_is
   case eW13=>rfl
   case lW13=>k_is
   case eW14=>rfl
   case lW14=>k_is
   case eW15=>rfl
   case lW15=>k_is
   case pgD=>k_is
   case hdD=>k_is
   case poD=>k_is
   case saD=>k_is
   case nwD=>k_is
   case nkD=>k_is
   case mkD=>k_is
   case kpD=>k_is
