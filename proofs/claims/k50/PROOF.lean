import PyProof.Rows.All
import Wide.All
import OpenK.AllK
import Wide.FinOn
import Lean
import PyProof.EqAt
import PyProof.EqKinds
import PyProof.TupleCall
import PyProof.CompFree
import PyProof.CollectWalk
import PyProof.Rows.SetFrom
import PyProof.Rows.SortShell
import PySem.Challenge.RW_allhits_k50_refused_at_a_desk
set_option Elab.async false
set_option linter.all false
set_option maxRecDepth 100000
def yaa := @Nat.testBit_and
def yab := @Bool.and_eq_true
def yac := @Nat.eq_of_testBit_eq
def yad := @Nat.testBit_lt_two_pow
def yae := @Nat.lt_of_lt_of_le
def yaf := @Nat.pow_le_pow_right
def yag := @Nat.lt_or_ge
def yah := @Nat.two_pow_pos
def yai := @Nat.testBit_xor
def yaj := @Nat.testBit_two_pow
def yak := @Nat.pow_succ
def yal := @Nat.testBit_zero
def yam := @Nat.mod_two_eq_zero_or_one
def yan := @Nat.testBit_or
def yao := @Nat.lt_two_pow_self
def yap := @Nat.lt_of_le_of_ne
def yaq := @List.foldl_append
def yar := @List.pairwise_append
def yas := @List.mem_append_left
def yat := @List.mem_append
def yau := @List.filter_append
def yav := @Bool.eq_iff_iff
def yaw := @Bool.not_eq_true'
def yax := @Nat.le_refl
def yay := @List.mem_filter
def yaz := @List.any_eq_false
def yba := @List.filter_sublist
def ybb := @List.mem_cons_self
def ybc := @List.pairwise_cons
def ybd := @List.mem_cons
def ybe := @List.mem_cons_of_mem
def ybf := @List.all_eq_true
def ybg := @List.pairwise_lt_range
def ybh := @List.mem_range
def ybi := @Nat.lt_of_le_of_lt
def ybj := @List.any_eq_true
def ybk := @List.foldl_cons
def ybl := @Nat.lt_trans
def ybm := @Nat.testBit_two_pow_self
def ybn := @List.mem_map
def ybo := @List.pairwise_map
def ybp := @List.pairwise_iff_getElem
def ybq := @Array.getElem?_toList
def ybr := @List.getElem?_eq_some_iff
def ybs := @Nat.le_of_lt
def ybt := @Nat.le_trans
def ybu := @Nat.not_lt
def ybv := @Nat.zero_le
def ybw := @Array.getElem?_eq_none
def ybx := @Nat.lt_succ_self
def yby := @Array.toList_extract
def ybz := @List.length_drop
def yca := @Array.length_toList
def ycb := @List.take_length
def ycc := @Array.toList_push
def ycd := @List.append_assoc
def yce := @List.getElem?_of_mem
def ycf := @Nat.le_add_right
def ycg := @List.filterMap_cons
def ych := @List.map_cons
def yci := @List.mem_filterMap
def ycj := @List.length_map
def yck := @List.getElem_mem
def ycl := @List.map_append
def ycm := @List.length_append
def ycn := @PySem.Heap.get?_update_self
def yco := @List.range_succ
def ycp := @Nat.le_succ
def ycq := @PySem.Heap.get?_push_size
def ycr := @PySem.Heap.get?_push_of_some
def ycs := @PySem.Heap.lt_size
def yct := @PySem.Heap.size_push
def ycu := @Nat.ne_of_lt
def ycv := @Nat.lt_succ_of_lt
def ycw := @List.not_mem_nil
def ycx := @Nat.ne_of_gt
def ycy := @Nat.lt_of_succ_lt_succ
def ycz := @List.length_eq_zero_iff
def yda := @List.append_nil
def ydb := @Nat.mod_lt
def ydc := @List.getElem?_eq_getElem
def ydd := @List.length_eraseIdx_of_lt
def yde := @PySem.Heap.get?_update_other
def ydf := @List.getElem?_map
def ydg := @List.map_map
def ydh := @Nat.le_of_eq
def ydi := @List.mem_singleton
def ydj := @List.ext_getElem
def ydk := @List.mem_of_getElem?
def ydl := @Bool.or_false
def ydm := @Bool.false_eq_true
def ydn := @Nat.lt_irrefl
def ydo := @Nat.le_add_left
def ydp := @Array.append_assoc
def ydq := @Nat.sub_add_cancel
def ydr := @List.getElem_inj
def yds := @List.getElem?_set_self
def ydt := @List.getElem?_set_ne
def ydu := @Bool.false_ne_true
def ydv := @Bool.false_and
def ydw := @List.mem_append_right
def ydx := @Int.fdiv_eq_ediv_of_nonneg
def ydy := @Array.eq_empty_of_size_eq_zero
def ydz := @Array.mem_toList_iff
def yea := @List.length_cons
def yeb := @List.nodup_cons
def yec := @List.of_mem_zip
def yed := @Option.isSome_iff_exists
def yee := @List.length_take
def yef := @List.getElem?_append_right
def yeg := @List.getElem?_replicate
def yeh := @List.getElem?_append_left
def yei := @List.length_replicate
def yej := @List.forIn_cons
def yek := @List.forIn_nil
def yel := @Int.toNat_natCast
def yem := @List.map_nil
def yen := @List.size_toArray
def yeo := @List.length_set
def yep := @List.any_cons
def yeq := @List.length_singleton
def yer := @List.find?_cons
def yet := @Option.map_some
def yeu := @List.cons_append
def yev := @PySem.F.slot_dict_getitem
def yew := @List.lookup_cons
def yex := @Bool.or_eq_true
def yey := @List.getD_eq_getElem?_getD
def yez := @Bool.true_and
def yfa := @List.getElem_toArray
def yfb := @Array.toArray_toList
def yfc := @List.length_erase_of_mem
def yfd := @List.map_id
def yfe := @List.map_congr_left
def yff := @List.length_filter_le
def yfg := @List.drop_eq_nil_of_le
def yfh := @Nat.le_succ_of_le
def yfi := @PySem.F.slot_list_index
def yfj := @List.take_add_one
def yfk := @List.map_eq_nil_iff
def yfl := @Nat.one_mul
def yfm := @Nat.mul_le_mul
def yfn := @List.filter_eq_nil_iff
def yfo := @List.flatten_cons
def yfp := @List.mem_flatten
def yfq := @Array.getElem?_eq_some_iff
def yfr := @Bool.eq_false_iff
def yfs := @List.idxOf_lt_length_of_mem
def yft := @List.map_replicate
def yfu := @List.getElem_idxOf
def yfv := @List.getElem?_cons_succ
def yfw := @List.getElem?_cons_zero
def yfx := @List.isEmpty_iff
def yfy := @List.find?_cons_of_neg
def yfz := @Nat.succ_ne_zero
def yga := @List.flatMap_cons
def ygb := @List.flatMap_append
def ygc := @Bool.or_eq_false_iff
def ygd := @Bool.and_eq_false_iff
def yge := @List.append_eq_nil_iff
def ygf := @List.length_pos_iff
def ygg := @Int.emod_nonneg
def ygh := @Int.emod_lt_of_pos
def ygi := @List.mem_of_mem_take
def ygj := @PySem.F.plainAttrs_list
def ygk := @PySem.F.slot_list_append
def ygl := @PySem.F.type_list_append
def ygm := @PySem.F.plainAttrs_str
def ygn := @PySem.F.slot_str_join
def ygo := @PySem.F.type_str_join
def ygp := @List.filter_eq_self
def ygq := @List.length_range
def ygr := @PySem.F.excBase_ValueError
def ygs := @PySem.F.slot_str_split
def ygt := @PySem.F.type_str_split
def ygu := @PySem.F.slot_str_replace
def ygv := @PySem.F.type_str_replace
namespace Fam
def sub (b a:Nat):Prop:=a&&&b=b
instance (b a:Nat):Decidable (sub b a):=inferInstanceAs (Decidable (a&&&b=b))
theorem qcC {b a:Nat}:sub b a↔∀k,b.testBit k=true->a.testBit k=true:=by
 unfold sub
 constructor
 . intro h k hk
   rw [<-h,yaa,yab] at hk
   exact hk.1
 . intro h
   refine yac fun k=>?_
   rw [yaa]
   cases hb:b.testBit k
   . simp
   . simp [h k hb]
theorem qdV (a:Nat):sub a a:=Nat.and_self a
theorem qcy {a b c:Nat} (h1:sub a b) (h2:sub b c):sub a c:=qcC.mpr fun k hk=>qcC.mp h2 k (qcC.mp h1 k hk)
theorem qga {a b:Nat} (h:sub b a):b<=a:=by
 have:a&&&b<=a:=Nat.and_le_left
 rw [h] at this
 exact this
theorem qi2 {a b:Nat} (h1:sub a b) (h2:sub b a):a=b:=Nat.le_antisymm (qga h1) (qga h2)
def mt (a b:Nat):Prop:=a&&&b≠0
instance (b a:Nat):Decidable (mt b a):=inferInstanceAs (Decidable (b&&&a≠0))
theorem qlD {a b:Nat}:mt a b↔∃k,a.testBit k=true/\b.testBit k=true:=by
 unfold mt
 constructor
 . intro h
   obtain ⟨k,hk⟩:=Nat.exists_testBit_of_ne_zero h
   rw [yaa,yab] at hk
   exact ⟨k,hk⟩
 . rintro ⟨k,h1,h2⟩ e
   have:=congrArg (fun z=>Nat.testBit z k) e
   simp [yaa,h1,h2] at this
theorem qik {a b:Nat}:mt a b↔mt b a:=by unfold mt;rw [Nat.and_comm]
theorem qpg {a a' b:Nat} (h:sub a a') (q:mt a b):mt a' b:=by
 obtain ⟨k,h1,h2⟩:=qlD.mp q
 exact qlD.mpr ⟨k,qcC.mp h k h1,h2⟩
theorem qnD {n a k:Nat} (h:a<2^n) (hk:n<=k):a.testBit k=false:=yad (yae h (yaf (by decide) hk))
theorem qiq {n a k:Nat} (h:a<2^n) (hk:a.testBit k=true):k<n:=by
 rcases yag k n with z | z
 . exact z
 . rw [qnD h z] at hk;cases hk
def rst (m a:Nat):Nat:=2^m-(a+1)
theorem qg4 {m a:Nat} (h:a<2^m) (k:Nat):(rst m a).testBit k=(decide (k<m)&&!a.testBit k):=Nat.testBit_two_pow_sub_succ h k
theorem qji (m a:Nat):rst m a<2^m:=by
 have:=yah m
 unfold rst
 omega
theorem qpZ {m a:Nat} (h:a<2^m):rst m (rst m a)=a:=by unfold rst;omega
theorem qgx {m a b:Nat} (ha:a<2^m) (hb:b<2^m):sub a (rst m b)↔¬mt a b:=by
 rw [qcC,qlD]
 constructor
 . rintro h ⟨k,h1,h2⟩
   have:=h k h1
   rw [qg4 hb,h2] at this
   simp at this
 . intro h k hk
   rw [qg4 hb]
   have hm:=qiq ha hk
   cases hb':b.testBit k
   . simp [hm]
   . exact absurd ⟨k,hk,hb'⟩ h
def qov (a k:Nat):Nat:=a-2^k
theorem qiF {a k:Nat} (h:a.testBit k=true):a=(a ^^^ 2^k)+2^k:=by
 have e:(a ^^^ 2^k)&&&2^k=0:=by
   refine yac fun j=>?_
   rw [yaa,yai,yaj,Nat.zero_testBit]
   by_cases c:k=j
   . subst c;simp [h]
   . simp [c]
 have key:∀n x y:Nat,x<2^n->x&&&y=0->x+y=x|||y:=by
   intro n
   induction n with
   | zero =>
     intro x y hx _
     have:x=0:=by omega
     subst this
     simp
   | succ n ih =>
     intro x y hx h
     have q:=ih (x/2) (y/2) (by rw [yak] at hx;omega) (by rw [<-Nat.and_div_two,h])
     have e1:(x|||y)/2=x/2|||y/2:=Nat.or_div_two
     have m2:x%2=0\/y%2=0:=by
       have:=congrArg (fun z=>Nat.testBit z 0) h
       simp only [yaa,yal,Nat.zero_testBit] at this
       rcases yam x with z1 | z1<;>rcases yam y with z2 | z2<;>simp [z1,z2] at this ⊢
     have m1:(x|||y)%2=x%2+y%2:=by
       have:=yan x y 0
       simp only [yal] at this
       rcases yam (x|||y) with z | z<;>rcases yam x with z1 | z1<;>rcases yam y with z2 | z2<;>simp [z,z1,z2] at this m2 ⊢
     rw [<-e1] at q
     omega
 have:=key (a ^^^ 2^k) (a ^^^ 2^k) (2^k) yao e
 rw [this]
 refine yac fun j=>?_
 rw [yan,yai,yaj]
 by_cases c:k=j
 . subst c;simp [h]
 . simp [c]
theorem qmU {a k:Nat} (h:a.testBit k=true) (j:Nat):(qov a k).testBit j=(a.testBit j&&decide (j≠k)):=by
 have e:qov a k=a ^^^ 2^k:=by
   have:=qiF h
   unfold qov
   omega
 rw [e,yai,yaj]
 by_cases c:k=j
 . subst c;simp [h]
 . simp [c,Ne.symm c]
theorem qqA {a k:Nat} (h:a.testBit k=true):qov a k<a:=by
 have:=qiF h
 have:=yah k
 unfold qov
 omega
theorem qmW {a k:Nat} (h:a.testBit k=true):sub (qov a k) a:=qcC.mpr fun j hj=>by
 rw [qmU h,yab] at hj
 exact hj.1
def qjN (P:Nat->Bool) (L:List Nat):List Nat:=L.foldl (fun found a=>if (!(found.any fun b=>decide (sub b a))&&P a)=true then found++[a] else found) []
def qfx (P:Nat->Bool) (L:List Nat) (a:Nat):Prop:=P a=true/\∀b∈L,P b=true->sub b a->b=a
instance (P:Nat->Bool) (L:List Nat) (a:Nat):Decidable (qfx P L a):=inferInstanceAs (Decidable (_/\_))
theorem qdW (P:Nat->Bool) (L:List Nat):∀(n b:Nat),b<=n->b∈L->P b=true->∃c∈L,qfx P L c/\sub c b
 | n,b,hn,hb,hP=>by
   by_cases c:∃d∈L,P d=true/\sub d b/\d≠b
   . obtain ⟨d,hd,hPd,hs,hne⟩:=c
     have hlt:d<b:=yap (qga hs) hne
     match n with
     | 0=>omega
     | n+1 =>
       obtain ⟨e,he,hm,hse⟩:=qdW P L n d (by omega) hd hPd
       exact ⟨e,he,hm,qcy hse hs⟩
   . refine ⟨b,hb,⟨hP,fun d hd hPd hs=>?_⟩,qdV b⟩
     by_cases e:d=b
     . exact e
     . exact absurd ⟨d,hd,hPd,hs,e⟩ c
theorem qnJ {p:List Nat->Prop} (h0:p []) (h1:∀L a,p L->p (L++[a])) (L:List Nat):p L:=by
 have:∀M:List Nat,p M.reverse:=by
   intro M
   induction M with
   | nil=>exact h0
   | cons a M ih=>rw [List.reverse_cons];exact h1 _ _ ih
 have:=this L.reverse
 rwa [List.reverse_reverse] at this
theorem qlM (P:Nat->Bool) (L:List Nat) (a:Nat):qjN P (L++[a])=if (!((qjN P L).any fun b=>decide (sub b a))&&P a)=true then qjN P L++[a] else qjN P L:=by
 unfold qjN
 rw [yaq]
 rfl
theorem qls (P:Nat->Bool) (L:List Nat) (hL:L.Pairwise (· < ·)):qjN P L=L.filter fun a=>decide (qfx P L a):=by
 revert hL
 refine qnJ (p:=fun L=>L.Pairwise (· < ·)->qjN P L=L.filter fun a=>decide (qfx P L a)) (fun _=>rfl) (fun L a ih hL=>?_) L
 obtain ⟨hL1,_,hlt⟩:=yar.mp hL
 have hlt:∀x∈L,x<a:=fun x hx=>hlt x hx a (by simp)
 have ih:=ih hL1
 have e1:L.filter (fun x=>decide (qfx P (L++[a]) x))=L.filter fun x=>decide (qfx P L x):=by
   refine List.filter_congr fun x hx=>?_
   rw [decide_eq_decide]
   constructor
   . rintro ⟨h1,h2⟩
     exact ⟨h1,fun b hb=>h2 b (yas _ hb)⟩
   . rintro ⟨h1,h2⟩
     refine ⟨h1,fun b hb hP hs=>?_⟩
     rcases yat.mp hb with z | z
     . exact h2 b z hP hs
     . have:b=a:=by simpa using z
       subst this
       have:=qga hs
       have:=hlt x hx
       omega
 rw [qlM,yau,e1,<-ih]
 have key:(!((qjN P L).any fun b=>decide (sub b a))&&P a)=decide (qfx P (L++[a]) a):=by
   rw [yav,yab,yaw,decide_eq_true_eq]
   constructor
   . rintro ⟨h1,h2⟩
     refine ⟨h2,fun b hb hP hs=>?_⟩
     rcases yat.mp hb with z | z
     . exfalso
       obtain ⟨c,hc,hm,hsc⟩:=qdW P L b b (yax _) z hP
       have hin:c∈qjN P L:=by rw [ih];exact yay.mpr ⟨hc,decide_eq_true hm⟩
       have:=yaz.mp h1 c hin
       exact this (decide_eq_true (qcy hsc hs))
     . simpa using z
   . rintro ⟨h1,h2⟩
     refine ⟨?_,h1⟩
     rw [yaz]
     intro c hc hd
     rw [ih] at hc
     obtain ⟨c1,c2⟩:=yay.mp hc
     have:=h2 c (yas _ c1) (of_decide_eq_true c2).1 (of_decide_eq_true hd)
     have:=hlt c c1
     omega
 rw [key]
 by_cases c:qfx P (L++[a]) a
 . rw [if_pos (decide_eq_true c)]
   simp [c]
 . rw [if_neg (by simpa using c)]
   simp [c]
theorem qeI {P:Nat->Bool} {L:List Nat} (hL:L.Pairwise (· < ·)) {a:Nat}:a∈qjN P L↔a∈L/\qfx P L a:=by
 rw [qls P L hL,yay,decide_eq_true_eq]
theorem qeS {P:Nat->Bool} {L:List Nat} (hL:L.Pairwise (· < ·)):(qjN P L).Pairwise (· < ·):=by
 rw [qls P L hL]
 exact hL.sublist yba
theorem rise_ext:∀{a b:List Nat},a.Pairwise (· < ·)->b.Pairwise (· < ·)->(∀x,x∈a↔x∈b)->a=b
 | [],[],_,_,_=>rfl
 | [],y::b,_,_,h=>absurd ((h y).mpr ybb) (by simp)
 | x::a,[],_,_,h=>absurd ((h x).mp ybb) (by simp)
 | x::a,y::b,ha,hb,h=>by
   obtain ⟨a1,a2⟩:=ybc.mp ha
   obtain ⟨b1,b2⟩:=ybc.mp hb
   have e:x=y:=by
     rcases ybd.mp ((h x).mp ybb) with z | z
     . exact z
     . rcases ybd.mp ((h y).mpr ybb) with q | q
       . exact q.symm
       . have:=b1 x z
         have:=a1 y q
         omega
   subst e
   congr 1
   refine rise_ext a2 b2 fun z=>?_
   constructor
   . intro hz
     rcases ybd.mp ((h z).mp (ybe _ hz)) with q | q
     . have:=a1 z hz;omega
     . exact q
   . intro hz
     rcases ybd.mp ((h z).mpr (ybe _ hz)) with q | q
     . have:=b1 z hz;omega
     . exact q
def qiD (fs:List Nat) (a:Nat):Bool:=fs.all fun b=>decide (mt a b)
theorem qcn {fs:List Nat} {a:Nat}:qiD fs a=true↔∀b∈fs,mt a b:=by
 unfold qiD
 rw [ybf]
 simp only [decide_eq_true_eq]
theorem qkm {fs:List Nat} {a b:Nat} (h:sub b a) (q:qiD fs b=true):qiD fs a=true:=qcn.mpr fun c hc=>qpg h (qcn.mp q c hc)
def qgd (m:Nat) (fs:List Nat):List Nat:=qjN (qiD fs) (List.range (2^m))
theorem qcp {m:Nat} {fs:List Nat} {a:Nat}:a∈qgd m fs↔a<2^m/\qiD fs a=true/\∀b,b<2^m->qiD fs b=true->sub b a->b=a:=by
 unfold qgd
 rw [qeI ybg,ybh]
 unfold qfx
 simp only [ybh]
theorem qhw (m:Nat) (fs:List Nat):(qgd m fs).Pairwise (· < ·):=qeS ybg
theorem qf7 {m:Nat} {fs:List Nat} {a:Nat} (ha:a<2^m) (h:qiD fs a=true):∃c∈qgd m fs,sub c a:=by
 obtain ⟨c,hc,hm,hs⟩:=qdW (qiD fs) (List.range (2^m)) a a (yax _) (ybh.mpr ha) h
 exact ⟨c,(qeI ybg).mpr ⟨hc,hm⟩,hs⟩
theorem qq8 {m a b:Nat} (h:sub b a) (ha:a<2^m):b<2^m:=ybi (qga h) ha
def qmD (L:List Nat):List Nat:=qjN (fun _=>true) L
theorem qgQ {L:List Nat} (hL:L.Pairwise (· < ·)) {a:Nat}:a∈qmD L↔a∈L/\∀b∈L,sub b a->b=a:=by
 unfold qmD
 rw [qeI hL]
 unfold qfx
 simp
theorem qjV {L:List Nat} (hL:L.Pairwise (· < ·)) {b:Nat} (hb:b∈L):∃c∈qmD L,sub c b:=by
 obtain ⟨c,hc,hm,hs⟩:=qdW (fun _=>true) L b b (yax _) hb rfl
 exact ⟨c,(qeI hL).mpr ⟨hc,hm⟩,hs⟩
theorem qmc {m:Nat} {fs:List Nat} (hr:fs.Pairwise (· < ·)) (hb:∀b∈fs,b<2^m):qgd m (qgd m fs)=qmD fs:=by
 refine rise_ext (qhw _ _) (qeS hr) fun a=>?_
 rw [qgQ hr]
 -- each set of the family meets all qgd
 have meet:∀f∈fs,qiD (qgd m fs) f=true:=fun f hf=>qcn.mpr fun h hh=>qik.mp (qcn.mp (qcp.mp hh).2.1 f hf)
 -- what meets all qgd holds a set of the family
 have hold:∀t,t<2^m->qiD (qgd m fs) t=true->∃f∈fs,sub f t:=fun t ht hp=>by
   apply Classical.byContradiction
   intro hn
   have:qiD fs (rst m t)=true:=qcn.mpr fun f hf=>by
     apply Classical.byContradiction
     intro hm
     have hs:sub f (rst m (rst m t)):=(qgx (hb f hf) (qji m t)).mpr fun z=>hm (qik.mp z)
     rw [qpZ ht] at hs
     exact hn ⟨f,hf,hs⟩
   obtain ⟨c,hc,hs⟩:=qf7 (qji m t) this
   exact (qgx (qq8 hs (qji m t)) ht).mp hs (qik.mp (qcn.mp hp c hc))
 constructor
 . intro ha
   obtain ⟨h1,h2,h3⟩:=qcp.mp ha
   obtain ⟨f,hf,hs⟩:=hold a h1 h2
   have e:=h3 f (hb f hf) (meet f hf) hs
   subst e
   refine ⟨hf,fun b hbm hsb=>h3 b (hb b hbm) (meet b hbm) hsb⟩
 . rintro ⟨ha,hmin⟩
   refine qcp.mpr ⟨hb a ha,meet a ha,fun b hbl hp hs=>?_⟩
   obtain ⟨f,hf,hsf⟩:=hold b hbl hp
   have e:=hmin f hf (qcy hsf hs)
   subst e
   exact qi2 hs hsf
end Fam
namespace Fam
def qiz (L:List Nat) (a:Nat):Prop:=∀b∈L,sub a b->b=a
instance (L:List Nat) (a:Nat):Decidable (qiz L a):=inferInstanceAs (Decidable (∀b∈L,_))
theorem qhI (L:List Nat) (M:Nat) (hM:∀x∈L,x<M):∀(n b:Nat),M<=b+n->b∈L->∃c∈L,qiz L c/\sub b c
 | n,b,hn,hb=>by
   by_cases c:∃d∈L,sub b d/\d≠b
   . obtain ⟨d,hd,hs,hne⟩:=c
     have hlt:b<d:=yap (qga hs) (Ne.symm hne)
     match n with
     | 0=>have:=hM b hb;omega
     | n+1 =>
       obtain ⟨e,he,hm,hse⟩:=qhI L M hM n d (by omega) hd
       exact ⟨e,he,hm,qcy hs hse⟩
   . refine ⟨b,hb,fun d hd hs=>?_,qdV b⟩
     by_cases e:d=b
     . exact e
     . exact absurd ⟨d,hd,hs,e⟩ c
def qm5 (fs:List Nat) (a:Nat):Bool:=fs.any fun b=>decide (sub b a)
theorem qeF {fs:List Nat} {a:Nat}:qm5 fs a=true↔∃b∈fs,sub b a:=by
 unfold qm5
 rw [ybj]
 simp only [decide_eq_true_eq]
theorem qju {fs:List Nat} (hr:fs.Pairwise (· < ·)) (a:Nat):qm5 (qmD fs) a=qm5 fs a:=by
 rw [yav,qeF,qeF]
 constructor
 . rintro ⟨b,hb,hs⟩
   exact ⟨b,((qgQ hr).mp hb).1,hs⟩
 . rintro ⟨b,hb,hs⟩
   obtain ⟨c,hc,hs'⟩:=qjV hr hb
   exact ⟨c,hc,qcy hs' hs⟩
def nms (n a:Nat):List Nat:=(List.range n).filter fun k=>a.testBit k
theorem mem_nms {n a k:Nat}:k∈nms n a↔k<n/\a.testBit k=true:=by
 unfold nms
 rw [yay,ybh]
theorem nms_rise (n a:Nat):(nms n a).Pairwise (· < ·):=ybg.sublist yba
def ofN (L:List Nat):Nat:=L.foldl (fun z k=>z|||2^k) 0
theorem qk9 (L:List Nat) (j:Nat):(ofN L).testBit j=decide (j∈L):=by
 have key:∀(L:List Nat) (z:Nat),(L.foldl (fun z k=>z|||2^k) z).testBit j=(z.testBit j||decide (j∈L)):=fun L=>by
   induction L with
   | nil=>intro z;simp
   | cons k L ih =>
     intro z
     rw [ybk,ih,yan,yaj,Bool.or_assoc]
     congr 1
     by_cases c:k=j
     . subst c;simp
     . simp [c,Ne.symm c]
 unfold ofN
 rw [key]
 simp
theorem ofN_lt {L:List Nat} {n:Nat} (h:∀k∈L,k<n):ofN L<2^n:=by
 refine Nat.lt_pow_two_of_testBit _ fun k hk=>?_
 rw [qk9,decide_eq_false_iff_not]
 intro z
 have:=h k z
 omega
theorem ofN_nms {n a:Nat} (h:a<2^n):ofN (nms n a)=a:=by
 refine yac fun j=>?_
 rw [qk9]
 cases hb:a.testBit j with
 | true=>exact decide_eq_true (mem_nms.mpr ⟨qiq h hb,hb⟩)
 | false=>exact decide_eq_false fun z=>by rw [(mem_nms.mp z).2] at hb;cases hb
def pc (n a:Nat):Nat:=(nms n a).length
end Fam
namespace Fam
def Up (m:Nat) (f:Nat->Bool):Prop:=∀a b,a<2^m->sub b a->f b=true->f a=true
def yes (m:Nat) (f:Nat->Bool):List Nat:=(List.range (2^m)).filter f
theorem qeL (m:Nat) (f:Nat->Bool):(yes m f).Pairwise (· < ·):=ybg.sublist yba
theorem qcO {m:Nat} {f:Nat->Bool} {a:Nat}:a∈yes m f↔a<2^m/\f a=true:=by
 unfold yes
 rw [yay,ybh]
theorem qpt {m:Nat} {f:Nat->Bool} (u:Up m f) {a:Nat} (ha:a<2^m):qm5 (yes m f) a=f a:=by
 rw [yav,qeF]
 constructor
 . rintro ⟨b,hb,s⟩
   exact u a b ha s (qcO.mp hb).2
 . intro h
   exact ⟨a,qcO.mpr ⟨ha,h⟩,qdV a⟩
theorem qiC {m:Nat} {f:Nat->Bool} (u:Up m f) {a:Nat} (ha:a<2^m):qm5 (qmD (yes m f)) a=f a:=by
 rw [qju (qeL m f),qpt u ha]
theorem qps {m:Nat} {f:Nat->Bool} {a:Nat} (h:a∈qmD (yes m f)):a<2^m/\f a=true/\∀k,a.testBit k=true->f (qov a k)=false:=by
 obtain ⟨h1,h2⟩:=(qgQ (qeL m f)).mp h
 obtain ⟨h3,h4⟩:=qcO.mp h1
 refine ⟨h3,h4,fun k hk=>?_⟩
 cases e:f (qov a k) with
 | false=>rfl
 | true =>
   have l:=qqA hk
   have:=h2 _ (qcO.mpr ⟨ybl l h3,e⟩) (qmW hk)
   omega
def qg9 (a k:Nat):Nat:=a+2^k
theorem qk4 {a k:Nat} (h:a.testBit k=false):qg9 a k=a|||2^k:=by
 have hb:(a|||2^k).testBit k=true:=by simp [yan,ybm]
 have e:=qiF hb
 have e2:(a|||2^k) ^^^ 2^k=a:=by
   apply yac
   intro j
   rw [yai,yan]
   rcases Nat.decEq k j with z | z
   . rw [Nat.testBit_two_pow_of_ne z]
     simp
   . subst z
     rw [ybm,h]
     rfl
 rw [e2] at e
 unfold qg9
 omega
theorem qpH {m a k:Nat} (h:a.testBit k=false) (ha:a<2^m) (hk:k<m):qg9 a k<2^m:=by
 rw [qk4 h]
 exact Nat.or_lt_two_pow ha (Nat.pow_lt_pow_right (by decide) hk)
theorem qrq (a b:Nat):sub a (a|||b):=qcC.mpr fun k hk=>by simp [yan,hk]
theorem qnc {a k:Nat} (h:a.testBit k=false):sub a (qg9 a k):=by
 rw [qk4 h]
 exact qrq _ _
def qqD (L:List Nat):List Nat:=L.filter fun a=>decide (qiz L a)
theorem qeG {L:List Nat} {a:Nat}:a∈qqD L↔a∈L/\qiz L a:=by
 unfold qqD
 rw [yay,decide_eq_true_eq]
theorem qoN {m:Nat} {f:Nat->Bool} {a:Nat} (h:a∈qqD (yes m fun s=>!f s)):a<2^m/\f a=false/\∀k,k<m->a.testBit k=false->f (qg9 a k)=true:=by
 obtain ⟨h1,h2⟩:=qeG.mp h
 obtain ⟨h3,h4⟩:=qcO.mp h1
 refine ⟨h3,by simpa using h4,fun k hm hk=>?_⟩
 cases e:f (qg9 a k) with
 | true=>rfl
 | false =>
   have:=h2 _ (qcO.mpr ⟨qpH hk h3 hm,by simp [e]⟩) (qnc hk)
   unfold qg9 at this
   have:=yah k
   omega
def qfN (fs:List Nat) (a:Nat):Bool:=fs.any fun b=>decide (sub a b)
theorem qcu {fs:List Nat} {a:Nat}:qfN fs a=true↔∃b∈fs,sub a b:=by
 unfold qfN
 rw [ybj]
 simp only [decide_eq_true_eq]
theorem qpV {m:Nat} {f:Nat->Bool} (u:Up m f) {a:Nat} (ha:a<2^m):qfN (qqD (yes m fun s=>!f s)) a = !f a:=by
 rw [yav,qcu]
 constructor
 . rintro ⟨b,hb,s⟩
   obtain ⟨h1,h2,_⟩:=qoN hb
   cases e:f a with
   | false=>rfl
   | true=>rw [u b a h1 s e] at h2;cases h2
 . intro h
   obtain ⟨c,hc,hm,s⟩:=qhI (yes m fun s=>!f s) (2^m) (fun x hx=>(qcO.mp hx).1) (2^m) a (by omega) (qcO.mpr ⟨ha,h⟩)
   exact ⟨c,qeG.mpr ⟨hc,hm⟩,s⟩
theorem qkL {L:List Nat} (h:L.Pairwise (· < ·)):(qqD L).Pairwise (· < ·):=h.sublist yba
theorem qmG {m:Nat} {fs:List Nat} {a:Nat} (ha:a<2^m):qm5 (qgd m fs) a=qiD fs a:=by
 rw [yav,qeF]
 constructor
 . rintro ⟨b,hb,s⟩
   exact qkm s (qcp.mp hb).2.1
 . intro h
   exact qf7 ha h
end Fam
namespace Fam
def qnp (m:Nat) (fs:List Nat):List Nat:=(fs.map (rst m)).reverse
theorem qdu {m:Nat} {fs:List Nat} {a:Nat}:a∈qnp m fs↔∃b∈fs,rst m b=a:=by
 unfold qnp
 rw [List.mem_reverse,ybn]
theorem qlz {m:Nat} {fs:List Nat} (hr:fs.Pairwise (· < ·)) (hb:∀b∈fs,b<2^m):(qnp m fs).Pairwise (· < ·):=by
 unfold qnp
 rw [List.pairwise_reverse,ybo]
 refine List.Pairwise.imp_of_mem (fun {a b} ha hb2 h=>?_) hr
 have:=hb a ha
 have:=hb b hb2
 unfold rst
 omega
theorem qo7 {m:Nat} {fs:List Nat}:∀b∈qnp m fs,b<2^m:=fun b hb=>by
 obtain ⟨a,_,rfl⟩:=qdu.mp hb
 exact qji m a
theorem qk3 {L:List Nat} (h:L.Pairwise (· < ·)):(qmD L).Pairwise (· < ·):=qeS h
theorem qgH {m:Nat} {fs:List Nat}:∀b∈qgd m fs,b<2^m:=fun b hb=>(qcp.mp hb).1
theorem qlB {m:Nat} {fs:List Nat}:∀a∈qgd m fs,∀b∈qgd m fs,sub b a->b=a:=fun a ha b hb s=>(qcp.mp ha).2.2 b (qcp.mp hb).1 (qcp.mp hb).2.1 s
theorem qni {m:Nat} {fs:List Nat} (hr:fs.Pairwise (· < ·)) (hb:∀b∈fs,b<2^m) {a:Nat} (ha:a<2^m):qiD (qgd m fs) a=qm5 fs a:=by
 rw [<-qmG ha,qmc hr hb,qju hr]
theorem qiJ {m a b:Nat} (ha:a<2^m) (hb:b<2^m) (h:sub (rst m a) (rst m b)):sub b a:=by
 refine qcC.mpr fun k hk=>?_
 have km:=qiq hb hk
 cases e:a.testBit k with
 | true=>rfl
 | false =>
   have:=qcC.mp h k (by rw [qg4 ha,e];simp [km])
   rw [qg4 hb,hk] at this
   simp at this
theorem qjJ {m:Nat} {fs:List Nat} (hr:fs.Pairwise (· < ·)) (hb:∀b∈fs,b<2^m) {a:Nat} (ha:a<2^m):qfN (qnp m (qgd m fs)) a = !qm5 fs a:=by
 rw [<-qni hr hb ha]
 rw [yav,qcu]
 constructor
 . rintro ⟨b,hbm,s⟩
   obtain ⟨c,hc,rfl⟩:=qdu.mp hbm
   have:=(qgx ha (qgH c hc)).mp s
   cases e:qiD (qgd m fs) a with
   | false=>rfl
   | true=>exact absurd (qcn.mp e c hc) this
 . intro h
   have hn:¬∀c∈qgd m fs,mt a c:=fun z=>by rw [qcn.mpr z] at h;cases h
   obtain ⟨c,hc,hmc⟩:∃c∈qgd m fs,¬mt a c:=by
     apply Classical.byContradiction
     intro z
     exact hn fun c hc=>Classical.byContradiction fun y=>z ⟨c,hc,y⟩
   exact ⟨_,qdu.mpr ⟨c,hc,rfl⟩,(qgx ha (qgH c hc)).mpr hmc⟩
theorem qkM {m:Nat} {fs:List Nat} (hb:∀b∈fs,b<2^m) (q:∀a∈fs,∀b∈fs,sub b a->b=a):∀a∈qnp m fs,∀b∈qnp m fs,sub b a->b=a:=by
 intro a ha b hbm s
 obtain ⟨c,hc,rfl⟩:=qdu.mp ha
 obtain ⟨d,hd,rfl⟩:=qdu.mp hbm
 rw [q d hd c hc (qiJ (hb d hd) (hb c hc) s)]
theorem qnV {m:Nat} {A B:List Nat} (r1:A.Pairwise (· < ·)) (r2:B.Pairwise (· < ·)) (b1:∀a∈A,a<2^m) (b2:∀a∈B,a<2^m) (m1:∀a∈A,qiz A a) (m2:∀a∈B,qiz B a) (h:∀a,a<2^m->qfN A a=qfN B a):A=B:=by
 have key:∀{A B:List Nat},(∀a∈A,a<2^m)->(∀a∈B,a<2^m)->(∀a∈A,qiz A a)->(∀a,a<2^m->qfN A a=qfN B a)->∀a∈A,a∈B:=by
   intro A B b1 b2 m1 h a ha
   have h1:qfN A a=true:=qcu.mpr ⟨a,ha,qdV a⟩
   rw [h a (b1 a ha)] at h1
   obtain ⟨b,hb,s⟩:=qcu.mp h1
   have h2:qfN B b=true:=qcu.mpr ⟨b,hb,qdV b⟩
   rw [<-h b (b2 b hb)] at h2
   obtain ⟨c,hc,s2⟩:=qcu.mp h2
   have:=m1 a ha c hc (qcy s s2)
   rw [this] at s2
   rw [qi2 s s2]
   exact hb
 exact rise_ext r1 r2 fun x=>⟨key b1 b2 m1 h x,key b2 b1 m2 (fun a ha=>(h a ha).symm) x⟩
theorem qtf {m:Nat} {f:Nat->Bool} (u:Up m f):qnp m (qgd m (qmD (yes m f)))=qqD (yes m fun s=>!f s):=by
 have r:=qk3 (qeL m f)
 have hb:∀a∈qmD (yes m f),a<2^m:=fun a ha=>(qps ha).1
 refine qnV (m:=m) (qlz (qhw m _) qgH) (qkL (qeL m _)) qo7 (fun a ha=>(qoN ha).1) (fun a ha b hb2 s=>?_) (fun a ha b hb2 s=>?_) fun a ha=>?_
 . exact (qkM qgH qlB b hb2 a ha s).symm
 . exact (qeG.mp ha).2 b (qeG.mp hb2).1 s
 . rw [qjJ r hb ha,qpV u ha,qiC u ha]
end Fam
namespace Fam
end Fam
namespace Fam
end Fam
namespace STb
open PySem PySem.SetTable
def Ris (xs:Array Nat):Prop:=xs.toList.Pairwise (· < ·)
theorem Ris.lt {xs:Array Nat} (h:Ris xs) {i j a b:Nat} (hij:i<j) (ha:xs[i]?=some a) (hb:xs[j]?=some b):a<b:=by
 have h':=ybp.mp h
 rw [<-ybq] at ha hb
 obtain ⟨h1,e1⟩:=ybr.mp ha
 obtain ⟨h2,e2⟩:=ybr.mp hb
 have:=h' i j h1 h2 hij
 rw [e1,e2] at this
 exact this
theorem Ris.le {xs:Array Nat} (h:Ris xs) {i j a b:Nat} (hij:i<=j) (ha:xs[i]?=some a) (hb:xs[j]?=some b):a<=b:=by
 rcases yag i j with z | z
 . exact ybs (h.lt z ha hb)
 . have:i=j:=by omega
   subst this
   rw [ha] at hb
   cases hb
   exact yax _
theorem qil {xs:Array Nat} (h:Ris xs) (j:Nat):∀(fuel lo hi:Nat),hi-lo<=fuel->lo<=hi->hi<=xs.size ->
   (∀i y,i<lo->xs[i]?=some y->y<j)->(∀i y,hi<=i->xs[i]?=some y->j<=y) ->
   below.go xs j fuel lo hi<=xs.size/\(∀i y,i<below.go xs j fuel lo hi->xs[i]?=some y->y<j)/\(∀i y,below.go xs j fuel lo hi<=i->xs[i]?=some y->j<=y)
 | 0,lo,hi,hf,hl,hs,h1,h2=>by
   have:lo=hi:=by omega
   subst this
   exact ⟨hs,h1,h2⟩
 | fuel+1,lo,hi,hf,hl,hs,h1,h2=>by
   rw [below.go]
   by_cases hlt:lo<hi
   . rw [if_pos hlt]
     dsimp only
     have hm:(lo+hi)/2<xs.size:=by omega
     have hg:xs[(lo+hi)/2]?=some (xs.getD ((lo+hi)/2) j):=by simp [Array.getD,hm]
     by_cases hc:xs.getD ((lo+hi)/2) j<j
     . rw [if_pos hc]
       refine qil h j fuel _ _ (by omega) (by omega) hs (fun i y hi' e=>?_) h2
       exact ybi (h.le (by omega) e hg) hc
     . rw [if_neg hc]
       refine qil h j fuel _ _ (by omega) (by omega) (by omega) h1 (fun i y hi' e=>?_)
       exact ybt (ybu.mp hc) (h.le hi' hg e)
   . rw [if_neg hlt]
     have:lo=hi:=by omega
     subst this
     exact ⟨hs,h1,h2⟩
theorem qd8 {xs:Array Nat} (h:Ris xs) (j:Nat):below xs j<=xs.size/\(∀i y,i<below xs j->xs[i]?=some y->y<j)/\(∀i y,below xs j<=i->xs[i]?=some y->j<=y) :=
 qil h j xs.size 0 xs.size (by omega) (ybv _) (yax _) (fun i y hi=>by omega) (fun i y hi e=>by
   rw [ybw (by omega)] at e
   cases e)
theorem qjM {xs:Array Nat} (h:Ris xs):below xs 0=0:=by
 obtain ⟨h0,h1,_⟩:=qd8 h 0
 rcases Nat.eq_zero_or_pos (below xs 0) with z | z
 . exact z
 . have hlt:0<xs.size:=by omega
   have:=h1 0 xs[0] z (by simp)
   omega
theorem qkb {xs:Array Nat} (h:Ris xs) {i y:Nat} (e:xs[i]?=some y):below xs (y+1)=i+1:=by
 obtain ⟨h0,h1,h2⟩:=qd8 h (y+1)
 have hi:i<xs.size:=by
   rcases yag i xs.size with z | z
   . exact z
   . rw [ybw z] at e;cases e
 have g1:¬below xs (y+1)<=i:=fun z=>by have:=h2 i y z e;omega
 have g2:¬i+1<below xs (y+1):=fun z=>by
   have hlt:i+1<xs.size:=by omega
   have q:=h1 (i+1) xs[i+1] z (by simp [hlt])
   have q':=h.lt (ybx i) e (show xs[i+1]?=some xs[i+1] by simp [hlt])
   omega
 omega
theorem qfi {α:Type} (xs:Array α) (p:Nat) (hp:p<=xs.size) (x:α):(insertAt xs p x).toList=xs.toList.take p++x::xs.toList.drop p:=by
 unfold insertAt
 have e2:(xs.extract p xs.size).toList=xs.toList.drop p:=by
   rw [yby,List.extract_eq_drop_take]
   have:xs.size-p=(xs.toList.drop p).length:=by rw [ybz,yca]
   rw [this,ycb]
 have e1:(xs.extract 0 p).toList=xs.toList.take p:=by
   rw [yby,List.extract_eq_drop_take]
   rfl
 rw [Array.toList_append,ycc,e1,e2,ycd]
 rfl
theorem qpY {t:SetTable} (h:Ris t.place) {j:Nat} (hj:t.place[below t.place j]?≠some j):Ris (t.put j).1.place:=by
 obtain ⟨h0,h1,h2⟩:=qd8 h j
 unfold SetTable.put Ris
 dsimp only
 rw [qfi _ _ h0]
 have hp:(t.place.toList.take (below t.place j)++t.place.toList.drop (below t.place j)).Pairwise (· < ·):=by rw [List.take_append_drop];exact h
 obtain ⟨p1,p2,p3⟩:=yar.mp hp
 refine yar.mpr ⟨p1,ybc.mpr ⟨fun y hy=>?_,p2⟩,fun x hx y hy=>?_⟩
 . obtain ⟨i,e⟩:=yce hy
   rw [List.getElem?_drop,ybq] at e
   have q:=h2 _ y (ycf _ _) e
   rcases yag j y with z | z
   . exact z
   . exfalso
     have ey:y=j:=by omega
     subst ey
     cases i with
     | zero=>exact hj (by simpa using e)
     | succ i =>
       have hlt:below t.place y<t.place.size:=by
         rcases yag (below t.place y+(i+1)) t.place.size with z | z
         . omega
         . rw [ybw z] at e;cases e
       have q1:=h2 (below t.place y) t.place[below t.place y] (yax _) (by simp)
       have q2:=h.lt (show below t.place y<below t.place y+(i+1) by omega) (show t.place[below t.place y]?=some t.place[below t.place y] by simp) e
       omega
 . have hx':x<j:=by
     obtain ⟨i,e⟩:=yce hx
     rw [List.getElem?_take] at e
     split at e
     . rename_i hi
       rw [ybq] at e
       exact h1 i x hi e
     . cases e
   rcases ybd.mp hy with rfl | hy
   . exact hx'
   . exact p3 x hx y hy
def qe2 (t:SetTable) (j:Nat):Prop:=t.place[below t.place j]?≠some j
theorem qen {t:SetTable} {j:Nat} (h:∀i,t.slot j ≠ .live i):qe2 t j:=by
 intro e
 unfold SetTable.slot at h
 dsimp only at h
 rw [if_pos (by rw [e];simp)] at h
 exact h _ rfl
theorem qgq {t:SetTable} {h:Int}:∀(fuel:Nat) (p:Probe) (j:Nat) (d:Option Nat),(∀x,p.dummy=some x->qe2 t x)->probe.go t (fun _=>h+1) h fuel p=some (.empty j d)->qe2 t j/\∀x,d=some x->qe2 t x
 | 0,p,j,d,_,e=>by rw [probe.go] at e;cases e
 | fuel+1,p,j,d,hp,e=>by
   rw [probe.go] at e
   cases hs:t.slot p.j with
   | empty =>
     rw [hs] at e
     cases e
     exact ⟨qen (fun i z=>by rw [hs] at z;exact (nomatch z)),hp⟩
   | dummy =>
     rw [hs] at e
     refine qgq fuel _ j d (fun x hx=>?_) e
     have:(t.advance { p with dummy:=some p.j }).dummy=some p.j:=by unfold SetTable.advance;dsimp only;split<;>rfl
     rw [this] at hx
     cases hx
     exact qen fun i z=>by rw [hs] at z;cases z
   | live i =>
     rw [hs] at e
     dsimp only at e
     rw [if_neg (by simp;omega)] at e
     refine qgq fuel _ j d (fun x hx=>hp x ?_) e
     have:(t.advance p).dummy=p.dummy:=by unfold SetTable.advance;dsimp only;split<;>rfl
     rw [this] at hx
     exact hx
theorem qhh {t:SetTable} {h:Int} {j:Nat} {b:Bool} (e:t.freeSlot h=some (j,b)):qe2 t j:=by
 unfold SetTable.freeSlot at e
 split at e
 . rename_i k d hd
   cases e
   obtain ⟨q1,q2⟩:=qgq _ _ _ _ (by intro x hx;cases hx) hd
   cases d with
   | none=>exact q1
   | some x=>exact q2 x rfl
 . cases e
theorem qmv (n:Nat):Ris (Array.range n):=by
 unfold Ris
 rw [Array.toList_range]
 exact ybg
theorem qcB (t:SetTable) (n:Nat):Ris (t.standIn n).place:=qmv n
theorem qjE {t:SetTable} {es:Array (Int×Value)} {h:Int} {x:Value} (hr:Ris t.place):Ris (layNew t es h x).2.1.place/\(layNew t es h x).2.1.led=t.led:=by
 unfold layNew
 split
 . rename_i slot wd e
   dsimp only
   unfold SetTable.orStandIn
   split
   . exact ⟨qpY hr (qhh e),rfl⟩
   . exact ⟨qcB _ _,rfl⟩
 . exact ⟨qcB _ _,rfl⟩
theorem qm7 {mask finger moves:Nat} {led plain:Bool} {hashes:Array Int} {t:SetTable} {o:Array Nat} (e:laid mask finger moves led plain hashes=some (t,o)):Ris t.place/\t.led=led:=by
 unfold laid at e
 cases hc:layClean mask hashes with
 | none=>rw [hc] at e;cases e
 | some owner =>
   rw [hc] at e
   have e':=Option.some.inj e
   have e1:=congrArg Prod.fst e'
   dsimp only at e1
   subst e1
   refine ⟨?_,rfl⟩
   unfold Ris
   dsimp only
   have key:∀l:List Nat,l.Pairwise (· < ·)->((l.filterMap fun j=>(owner.getD j none).map (j,·)).map (·.1)).Pairwise (· < ·):=by
     intro l
     induction l with
     | nil=>intro _;exact List.Pairwise.nil
     | cons a r ih =>
       intro hp
       obtain ⟨h1,h2⟩:=ybc.mp hp
       rw [ycg]
       split
       . exact ih h2
       . rename_i b hb
         rw [ych]
         refine ybc.mpr ⟨fun y hy=>?_,ih h2⟩
         have hb':b.1=a:=by
           cases hq:owner.getD a none with
           | none=>rw [hq] at hb;cases hb
           | some z=>rw [hq] at hb;cases hb;rfl
         rw [hb']
         obtain ⟨q,hq,rfl⟩:=ybn.mp hy
         obtain ⟨z,hz,e⟩:=yci.mp hq
         have:q.1=z:=by
           cases hq2:owner.getD z none with
           | none=>rw [hq2] at e;cases e
           | some v=>rw [hq2] at e;cases e;rfl
         rw [this]
         exact h1 z hz
   simpa using key (List.range (mask+1)) ybg
theorem qhd {t:SetTable} {es:Array (Int×Value)} {wanted:Nat}:Ris (relayAll t es wanted).2.1.place/\(relayAll t es wanted).2.1.led=t.led:=by
 unfold relayAll
 split
 . rename_i t' order e
   dsimp only
   split
   . unfold SetTable.relaid at e
     exact qm7 e
   . exact ⟨qcB _ _,rfl⟩
 . exact ⟨qcB _ _,rfl⟩
end STb
namespace STb
open PySem PySem.SetTable PyProof.Rows
def kI:Value->Option Int
 | .int n _=>some n
 | _=>none
theorem qpa {prog:Program} {w:World} {k:Int} {v:Value}:(intKind prog w).is k v=true↔kI v=some k:=by
 constructor
 . intro h
   cases v<;>first
     | (rename_i n t;have:n=k:=by simpa [intKind,Value.isInt] using h
        rw [this];rfl)
     | (exfalso;simp [intKind,Value.isInt] at h)
 . intro h
   cases v<;>first
     | (rename_i n t;cases h;exact intKind_is _ _ _ _)
     | cases h
def RS (prog:Program) (w:World) (h:Heap) (a:Addr) (ns:List Int):Prop :=
 ∃es ep t,h.get? a=some { cls := .type "set",dict:=none,data := .set es ep t }/\ElemsOf (intKind prog w) es.toList/\(es.toList.map fun e=>kI e.2).Perm (ns.map some)/\es.size<scanBound/\t.fits es.size=true /\
   Ris t.place/\t.led = !w.params.followText "set-order" /\ ns.Nodup
theorem RS.keep {prog:Program} {w:World} {h h':Heap} {a:Addr} {ns:List Int} (r:RS prog w h a ns) (k:∀o,h.get? a=some o->h'.get? a=some o):RS prog w h' a ns:=by
 obtain ⟨es,ep,t,e,q⟩:=r
 exact ⟨es,ep,t,k _ e,q⟩
theorem RS.len {prog:Program} {w:World} {h:Heap} {a:Addr} {ns:List Int} (r:RS prog w h a ns):ns.length<scanBound:=by
 obtain ⟨es,ep,t,e,_,p,b,_⟩:=r
 have:=p.length_eq
 rw [ycj,ycj,yca] at this
 omega
def qdn (ns:List Int) (n:Int):List Int:=if n∈ns then ns else ns++[n]
theorem qgR {ns:List Int} {n:Int} (h:ns.Nodup):(qdn ns n).Nodup:=by
 unfold qdn
 split
 . exact h
 . rename_i hn
   exact List.nodup_append.mpr ⟨h,by simp,fun a ha b hb e=>hn (by simp at hb;rw [<-hb,<-e];exact ha)⟩
theorem qhJ {ns:List Int} {n k:Int}:k∈qdn ns n↔k∈ns\/k=n:=by
 unfold qdn
 split
 . rename_i hn
   exact ⟨.inl,fun h=>h.elim id fun e=>e▸hn⟩
 . simp
theorem qki (ns:List Int) (n:Int):(qdn ns n).length<=ns.length+1:=by
 unfold qdn
 split
 . omega
 . simp
section
variable {prog:Program} {w:World} {A:Around} {E:Value->Shared->Prop} {s:Shared} {a:Addr}
theorem qse {ns:List Int} {n:Int} {tk:Tok} {Q:Bool->Shared->Prop} (r:RS prog w s.heap a ns) (room:ns.length+1<scanBound)
   (h:∀b h',Heap.SameBut a s.heap h'->RS prog w h' a (qdn ns n)->Q b { s with heap:=h' }) :
   wpAny (model prog w) A (setAddHashed a (.int n tk) ((intKind prog w).hash n)) Q E s:=by
 obtain ⟨es,ep,t,ho,el,pm,bd,ft,rs,ld,nd⟩:=r
 have hsz:es.size=ns.length:=by
   have:=pm.length_eq
   rwa [ycj,ycj,yca] at this
 have hkey:(intKind prog w).is n (.int n tk)=true:=intKind_is _ _ _ _
 have memk:∀k:Int,k∈ns↔∃e∈es.toList,(intKind prog w).is k e.2=true:=fun k=>by
   have:k∈ns↔some k∈ns.map some:=by simp
   rw [this,<-pm.mem_iff,ybn]
   exact ⟨fun ⟨e,he,q⟩=>⟨e,he,qpa.mpr q⟩,fun ⟨e,he,q⟩=>⟨e,he,qpa.mp q⟩⟩
 unfold setAddHashed setAddHashedIn
 refine wpAny_holding (wpAny_bind (wpAny_setState_of ho rfl ft ?_))
 dsimp only
 rw [byScan_of (x := .int n tk) rfl bd el]
 simp only [if_true]
 unfold setAddByScan
 refine wpAny_bind (wpAny_bind (wpAny_rule (wpAny_bind (wpAny_setScan_of hkey ho rfl ft el ?_))))
 cases hr:List.findIdx? (fun e=>(intKind prog w).is n e.2) es.toList with
 | some j =>
   dsimp only
   obtain ⟨hj,hpj,_⟩:=List.findIdx?_eq_some_iff_getElem.mp hr
   have hin:n∈ns:=(memk n).mpr ⟨_,yck hj,hpj⟩
   refine wpAny_pure (wpAny_pure ?_)
   have q:=h false s.heap (Heap.SameBut.refl a s.heap) (by rw [show qdn ns n=ns from if_pos hin];exact ⟨es,ep,t,ho,el,pm,bd,ft,rs,ld,nd⟩)
   exact q
 | none =>
   dsimp only
   have hnot:¬n∈ns:=fun z=>by
     obtain ⟨e,he,q⟩:=(memk n).mp z
     have:=List.findIdx?_eq_none_iff.mp hr e he
     rw [q] at this
     cases this
   have pN:=layNew_perm t es ((intKind prog w).hash n) (.int n tk)
   have fN:=layNew_fits t es ((intKind prog w).hash n) (.int n tk)
   have rN:=qjE (es:=es) (h:=(intKind prog w).hash n) (x := .int n tk) rs
   generalize layNew t es ((intKind prog w).hash n) (.int n tk)=L at pN fN rN ⊢
   obtain ⟨e1,t1,wd,gv⟩:=L
   dsimp only at pN fN rN ⊢
   rw [ycc] at pN
   have el1:ElemsOf (intKind prog w) e1.toList:=(el.push hkey rfl).perm pN
   have pm1:(e1.toList.map fun e=>kI e.2).Perm ((qdn ns n).map some):=by
     rw [show qdn ns n=ns++[n] from if_neg hnot,ycl]
     refine (pN.map fun e=>kI e.2).trans ?_
     rw [ycl]
     exact pm.append (List.Perm.refl _)
   have sz1:e1.size=es.size+1:=by
     rw [<-yca,pN.length_eq,ycm,yca]
     rfl
   have bd1:e1.size<scanBound:=by omega
   have nd1:=qgR (n:=n) nd
   have gw:∀(b:Bool) (s₁:Shared) (Q':Unit->Shared->Prop),Q' () s₁->wpAny (model prog w) A (match b with | true=>rule "set.scan.the-table-gave-way" | false=>pure ()) Q' E s₁:=fun b s₁ Q' q=>by
     cases b
     . exact wpAny_pure q
     . exact wpAny_rule q
   refine wpAny_bind (gw gv _ _ ?_)
   have tail:∀t2:SetTable,t2.fits e1.size=true->Ris t2.place->t2.led=t.led->wpAny (model prog w) A (do
       storeSet a e1 t2
       if (!wd&&t2.tooFull)=true then do
           (match (relayAll t2 e1 (SetTable.grown e1.size)).2.2 with | true=>rule "set.scan.the-table-gave-way" | false=>pure ())
           storeSet a (relayAll t2 e1 (SetTable.grown e1.size)).1 (relayAll t2 e1 (SetTable.grown e1.size)).2.1
           pure (some true)
         else pure (some true)) (fun r s'=>∃b,r=some b/\Q b s') E s:=fun t2 f2 r2 l2=>by
     refine wpAny_bind (wpAny_storeSet_of ho rfl ?_ (fits_of_scanBound bd1))
     have g1:(s.heap.update a (Obj.putSet e1 t2)).get? a=some { cls := .type "set",dict:=none,data := .set e1 (ep+1) t2 }:=ycn (Obj.putSet e1 t2) ho rfl
     have sb1:=Heap.SameBut.update s.heap a (Obj.putSet e1 t2)
     split
     . have pR:=relayAll_perm t2 e1 (SetTable.grown e1.size)
       have fR:=relayAll_fits t2 e1 (SetTable.grown e1.size)
       have rR:=qhd (t:=t2) (es:=e1) (wanted:=SetTable.grown e1.size)
       generalize relayAll t2 e1 (SetTable.grown e1.size)=L2 at pR fR rR ⊢
       obtain ⟨e3,t3,g3⟩:=L2
       dsimp only at pR fR rR ⊢
       have sz3:e3.size=e1.size:=by rw [<-yca,pR.length_eq,yca]
       refine wpAny_bind (gw g3 _ _ (wpAny_bind (wpAny_storeSet_of g1 rfl ?_ (fits_of_scanBound (by omega)))))
       exact wpAny_pure ⟨true,rfl,h true _ (sb1.trans (Heap.SameBut.update _ a _)) ⟨e3,_,t3,ycn (Obj.putSet e3 t3) g1 rfl,el1.perm pR,(pR.map _).trans pm1,by omega,fR,rR.1,by rw [rR.2,l2];exact ld,nd1⟩⟩
     . exact wpAny_pure ⟨true,rfl,h true _ sb1 ⟨e1,_,t2,g1,el1,pm1,bd1,f2,r2,by rw [l2];exact ld,nd1⟩⟩
   have fin:∀(r:Option Bool) (s':Shared),(∃b,r=some b/\Q b s')->wpAny (model prog w) A (match r with | some added=>pure added | none=>setAddHashedIn a (.int n tk) ((intKind prog w).hash n) 99999) Q E s':=fun r s' ⟨b,e,q⟩=>by
     subst e
     exact wpAny_pure q
   split
   . refine wpAny_bind ?_
     rw [hashByValue_scannable 8 (x := .int n tk) rfl]
     refine wpAny_pure ?_
     refine wpAny_mono (tail t1 fN rN.1 rN.2) (fun r s' q=>?_) fun _ _ z=>z
     exact fin r s' q
   . refine wpAny_bind (wpAny_pure ?_)
     refine wpAny_mono (tail t1 fN rN.1 rN.2) (fun r s' q=>?_) fun _ _ z=>z
     exact fin r s' q
end
end STb
namespace STb
open PySem PySem.SetTable PyProof.Rows
def qcz (val:Nat->Int) (i:Nat):List Int:=((List.range i).map val).foldl qdn []
theorem qdb (val:Nat->Int) (i:Nat):qcz val (i+1)=qdn (qcz val i) (val i):=by
 unfold qcz
 rw [yco,ycl,yaq]
 rfl
theorem qft (val:Nat->Int):∀i,(qcz val i).length<=i
 | 0=>ybv _
 | i+1=>by
   rw [qdb]
   have h1:=qki (qcz val i) (val i)
   have h2:=qft val i
   omega
theorem qhU (val:Nat->Int) (k:Int):∀i,k∈qcz val i↔∃j,j<i/\val j=k
 | 0=>by simp [qcz]
 | i+1=>by
   rw [qdb,qhJ,qhU val k i]
   constructor
   . rintro (⟨j,hj,e⟩ | e)
     . exact ⟨j,by omega,e⟩
     . exact ⟨i,by omega,e.symm⟩
   . rintro ⟨j,hj,e⟩
     by_cases z:j=i
     . exact .inr (by rw [<-e,z])
     . exact .inl ⟨j,by omega,e⟩
section
variable {prog:Program} {w:World} {A:Around} {R:Result->Shared->Prop} {I:Addr} {fp wr:List Addr} {G:Array GenState->Array GenState->Prop} {n:Nat} {P:Nat->Value->Prop} {St:Nat->Shared->Prop}
theorem qmr (W:WalksS prog w A.in1 I fp wr G n P St) (S:Addr) (out:S∉fp) (val:Nat->Int) (hv:∀i v,P i v->∃t,v = .int (val i) t) (room:∀i,i<=n->(qcz val i).length+1<scanBound) :
   ∀(k i:Nat) (s:Shared),n-i=k->i<=n->St i s->RS prog w s.heap S (qcz val i) ->
     (∀s',Moved (S::wr) G s s'->RS prog w s'.heap S (qcz val n)->R (.ok (.ret .none)) s')->codeAny (model prog w) A (.builtin "set.update.loop" ⟨[.ref S,.ref I],[]⟩) R s:=by
 have nw:S∉wr:=fun z=>out (W.sub _ z)
 have sub:∀b∈wr,b∈S::wr:=fun b z=>ybe _ z
 intro k
 induction k with
 | zero =>
   intro i s hk hi st r fin
   have:i=n:=by omega
   subst this
   refine codeAny_builtin F.entry_set_update_loop ?_
   rw [Around.under_plainId F.plain_set_update_loop _]
   refine wpAny_bind (m:=pyNext (.ref I)) (W.done s _ _ st fun s' mv=>?_)
   exact wpAny_pure (fin s' (mv.mono sub) (r.keep fun o e=>mv.heap S o nw e))
 | succ k ih =>
   intro i s hk hi st r fin
   have hlt:i<n:=by omega
   refine codeAny_builtin F.entry_set_update_loop ?_
   rw [Around.under_plainId F.plain_set_update_loop _]
   refine wpAny_bind (m:=pyNext (.ref I)) (W.item i s _ _ hlt st fun v s' pv st' mv=>?_)
   obtain ⟨t,rfl⟩:=hv i v pv
   have r':=r.keep (h':=s'.heap) fun o e=>mv.heap S o nw e
   show wpAny _ A.in1 (holding [Value.int (val i) t] (setAdd S (.int (val i) t)) >>= _) _ _ s'
   refine wpAny_bind (wpAny_holding ?_)
   unfold setAdd
   refine wpAny_holding (wpAny_bind ((intKind prog w).pyHash (k:=val i) (intKind_is _ _ _ _) ?_))
   refine qse (s:={ s' with toks:=s'.toks+1 }) r' (room i hi) fun b h' sb r2=>?_
   refine wpAny_pure ⟨plainId_quiet F.plain_set_update_loop _,ih (i+1) _ (by omega) hlt (W.frame _ s' _ _ st' (ycp _) fun b hb o e=>?_) (by rw [qdb];exact r2) fun s2 mv2 r3=>?_⟩
   . rw [sb.2 b fun z=>out (z▸hb)];exact e
   . refine fin s2 (Moved.trans W.gtrans ((mv.mono sub).then_heap (ycp _) fun b o hb e=>?_) mv2) r3
     rw [sb.2 b fun z=>hb (z▸ybb)];exact e
end
section
variable {prog:Program} {w:World} {A:Around} {E:Value->Shared->Prop} {s:Shared}
abbrev qdh (b:Bool):Obj:={ cls := .type "set",dict:=none,data := .set #[] 0 (.fresh 0 0 b) }
theorem qm9 {h:Heap} {a:Addr} (e:h.get? a=some (qdh (!w.params.followText "set-order"))):RS prog w h a [] :=
 ⟨#[],0,_,e,fun _ z=>by simp at z,List.Perm.refl _,by show 0<4096;decide,rfl,List.Pairwise.nil,rfl,List.nodup_nil⟩
theorem qpe (v:Value) {Q₁:Value->Shared->Prop} (h:Q₁ (.ref s.heap.objs.size) { s with heap:=s.heap.push (qdh (!w.params.followText "set-order")) }) :
   codeAny (model prog w) A (.call (.builtin "set.__new__") ⟨[.type "set",v],[]⟩) (wants Q₁ E) s:=by
 refine codeAny_of_tree ?_
 refine wpAny_bind (m:=checkBuiltinCall "set.__new__" ⟨[.type "set",v],[]⟩) (wpAny_of_eq (F.newCall_set_1 v) (wpAny_pure ⟨plainId_quiet F.plain_set_new _,codeAny_builtin F.entry_set_new ?_⟩))
 rw [Around.under_plainId F.plain_set_new _]
 unfold Builtin.«set.__new__» Builtin.Frozenset.newClass
 have sub0:=sub_set_self
 obtain ⟨hp,g,d,tk,os⟩:=s
 dsimp only
 wp_walk
 refine wpAny_askSetting (wpAny_pure ?_)
 dsimp only
 simp only [newObj]
 exact wpAny_bind (wpAny_alloc (wpAny_pure (wpAny_pure h)))
set_option maxHeartbeats 3200000 in
theorem ql1 {l:Addr} {its:Array Value} {ns:List Int} {Q:Value->Shared->Prop} (hh:A.handled=none) (hl:s.heap.IsList l its) (hi:IntsAre its.toList ns) (room:∀i,i<=its.size->(qcz (fun i=>ns.getD i 0) i).length+1<scanBound)
   (h:∀(h':Heap) (tk:Nat),RS prog w h' s.heap.objs.size (qcz (fun i=>ns.getD i 0) its.size)->(∀b o,b<s.heap.objs.size->s.heap.get? b=some o->h'.get? b=some o)->Q (.ref s.heap.objs.size) { s with heap:=h',toks:=tk }) :
   wpAny (model prog w) A (call (.type "set") [.ref l]) Q E s:=by
 obtain ⟨c,tl,mro⟩:=F.called_set.mro
 have made:=F.called_set.made
 have sub1:=F.called_set.sub
 refine wpAny_call (codeAny_of_tree (wpAny_pure ⟨Code.quiet_builtin _ (by decide +kernel),codeAny_builtin F.entry_type_call ?_⟩))
 rw [Around.under_plain (weight_type_call_type "set" [.ref l] []) rfl]
 have nt:=F.called_set.notType
 have cc:=F.called_set.canCreate
 have tc:=F.typeCall_set_1 (.ref l)
 repeat (any_goals (first | assumption | wp_step))
 refine codeAny_mono (qpe (.ref l) (E:=E) (Q₁:=fun obj s₁=>obj = .ref s.heap.objs.size/\s₁={ s with heap:=s.heap.push (qdh (!w.params.followText "set-order")) }) ⟨rfl,rfl⟩) fun r s₁ hr=>?_
 cases r with
 | error e=>exact hr
 | ok fl =>
   cases fl with
   | ret obj =>
     obtain ⟨rfl,rfl⟩:=hr
     have g0:(s.heap.push (qdh (!w.params.followText "set-order"))).get? s.heap.objs.size=some (qdh (!w.params.followText "set-order")):=ycq _ rfl
     have ty:Shared.TypeIs { s with heap:=s.heap.push (qdh (!w.params.followText "set-order")) } (.ref s.heap.objs.size) "set" := ⟨_,g0,rfl⟩
     have li:=F.called_set.init.lookup
     have bi:=F.called_set.init.bind (.ref s.heap.objs.size)
     repeat (any_goals (first | assumption | wp_step))
     refine codeAny_mono (codeAny_call_builtin (R:=wants (fun r s₂=>r = .none/\∃h' tk,s₂={ s with heap:=h',toks:=tk }/\RS prog w h' s.heap.objs.size (qcz (fun i=>ns.getD i 0) its.size) /\
         (∀b o,b<s.heap.objs.size->s.heap.get? b=some o->h'.get? b=some o)) E) F.called_set.init.plain F.entry_set_init (check_set_init_1 ty ?_)) fun r₂ s₂ hr₂=>?_
     . obtain ⟨⟨oc,od,ot,osl⟩,e0,ec,nl,ed⟩:=hl
       simp only at ec ed
       subst ec ed
       have e1:(s.heap.push (qdh (!w.params.followText "set-order"))).get? l=some ⟨.type "list",od,.seq its nl,osl⟩:=ycr _ e0
       have q1:=F.sub_list_set
       have q2:=F.sub_list_frozenset
       have q3:(Value.type "list" == Value.type "dict")=false:=by decide
       have il:(s.heap.push (qdh (!w.params.followText "set-order"))).IsList l its:=⟨_,e1,rfl,nl,rfl⟩
       unfold Builtin.«set.__init__» noKeywords Builtin.Frozenset.updateFrom
       generalize pI:pyIter=PIt
       wp_walk
       subst pI
       refine wpAny_pyIter_list il (wpAny_bind (wpAny_runValue ?_))
       have hlt:l<s.heap.objs.size:=ycs e0
       have hh3:A.in1.in1.in1.handled=none:=by simp [hh]
       have ne1:l≠(s.heap.push (qdh (!w.params.followText "set-order"))).objs.size:=by
         rw [yct]
         exact ycu (ycv hlt)
       have ne2:s.heap.objs.size∉[(s.heap.push (qdh (!w.params.followText "set-order"))).objs.size,l]:=by
         rw [yct]
         simp only [ybd,ycw,or_false,not_or]
         exact And.intro (ycu (ybx _)) (ycx hlt)
       refine qmr ((Walks.list hh3 _ l ne1 its).toS) s.heap.objs.size ne2 (fun i=>ns.getD i 0) (fun i v e=>IntsAre.int_at hi i v (by rw [ybq];exact e)) room (its.size-0) 0 _ (by omega) (ybv _)
         ⟨⟨_,ycq _ rfl,rfl,rfl⟩,il.push _⟩ (qm9 (ycr _ g0)) ?_
       intro s' mv r'
       obtain ⟨h',g',d',tk',os'⟩:=s'
       have eg:g'=s.gens:=mv.gens
       have ed:d'=s.drawn:=mv.drawn
       have eo:os'=s.os:=mv.os
       subst eg ed eo
       refine wpAny_pure (wpAny_pure ⟨rfl,h',tk',rfl,r',fun b o hb e=>?_⟩)
       refine mv.heap b o ?_ (ycr _ (ycr _ e))
       rw [yct]
       simp only [ybd,ycw,or_false,not_or]
       exact And.intro (ycu hb) (ycu (ycv hb))
     . cases r₂ with
       | error e=>exact hr₂
       | ok fl₂ =>
         cases fl₂ with
         | ret r =>
           obtain ⟨rfl,h',tk,rfl,r',kp⟩:=hr₂
           repeat (any_goals (first | assumption | wp_step))
           exact h _ _ r' kp
         | _=>exact hr₂.elim
   | _=>exact hr.elim
end
end STb
namespace STb
open PySem PySem.SetTable PyProof.Rows
theorem qbS:Slot "set_iterator" "__next__" "set_iterator.__next__" :=
 Slot.of (owner := "set_iterator") (n := "__next__") (by (rw [typeLookup_type,builtinLookup_eq_fast]);kernel_rfl) (by decide +kernel) (by decide +kernel) (by decide +kernel) (by first | (exact Or.inl (by decide +kernel)) | (exact Or.inr (by decide +kernel))) (by (rw [isSubtype_type]);kernel_rfl)
theorem qeN:entryFor table "set_iterator.__next__" = some Builtin.«set_iterator.__next__»:=entryFor_of_tree (by kernel_rfl)
theorem qg5 (a:Value):argsOk "set_iterator.__next__" ⟨[a],[]⟩:=by unfold argsOk;kernel_rfl
theorem qj7:entryFor table "set.__iter__" = some Builtin.«frozenset.__iter__»:=entryFor_alias (id' := "frozenset.__iter__") (by kernel_rfl) (by decide +kernel) (by decide +kernel) (by kernel_rfl)
theorem qec {α:Type}:∀(l:List α) (i:Nat) (h:i<l.length),(l[i]::l.eraseIdx i).Perm l
 | [],i,h=>by cases h
 | x::r,0,h=>List.Perm.refl _
 | x::r,i+1,h=>(List.Perm.swap _ _ _).trans (List.Perm.cons _ (qec r i (ycy h)))
theorem qhr:typeLookup (.type "set") "__len__" = pure (some (.builtin "set.__len__")):=by (rw [typeLookup_type,builtinLookup_eq_fast]);kernel_rfl
theorem qiU:isSubtype (.type "set") (.type "set")=pure true:=by (rw [isSubtype_type]);kernel_rfl
theorem qkq {α:Type} (nx:Nat->Nat):∀(fuel k:Nat) (left:List α) (out:Array α),left.length=fuel->(pickOrder.go nx fuel k left out).toList.Perm (out.toList++left)
 | 0,k,left,out,h=>by
   rw [pickOrder.go]
   rw [ycz.mp h,yda]
 | fuel+1,k,left,out,h=>by
   rw [pickOrder.go]
   have hlt:nx k%left.length<left.length:=ydb _ (by omega)
   rw [ydc hlt]
   dsimp only
   refine (qkq nx fuel (k+1) _ _ (by rw [ydd hlt];omega)).trans ?_
   rw [ycc,ycd]
   refine List.Perm.append_left _ ?_
   exact qec left _ hlt
theorem qe7 {α:Type} (nx:Nat->Nat) (xs:Array α):(pickOrder nx xs).toList.Perm xs.toList:=by
 have:=qkq nx xs.size 0 xs.toList #[] (by simp)
 simpa [pickOrder] using this
section
variable {prog:Program} {w:World} {A:Around} {E:Value->Shared->Prop} {s:Shared}
theorem qk0 {src:Source} {n:Nat} {Q:Nat->Shared->Prop} (hn:n≠0) (h:∀i d,i<n->Q i { s with drawn:=d }):wpAny (model prog w) A (choose src n) Q E s :=
 fun Γ p _=>⟨hn,h _ _ (ydb _ (Nat.pos_of_ne_zero hn))⟩
theorem qkS:∀(n:Nat) (xs:List Nat) (s:Shared) (Q:List Nat->Shared->Prop),xs.length=n->(∀ys d,ys.Perm xs->Q ys { s with drawn:=d })->wpAny (model prog w) A (drawOrder n xs) Q E s
 | 0,xs,s,Q,h,q=>by
   rw [ycz.mp h] at q ⊢
   exact wpAny_pure (q [] s.drawn (List.Perm.refl _))
 | n+1,[],s,Q,h,q=>by cases h
 | n+1,x::r,s,Q,h,q=>by
   refine wpAny_bind (m:=choose .order (x::r).length) (qk0 (by simp) fun i d hi=>?_)
   rw [ydc hi]
   dsimp only
   refine wpAny_bind (qkS n ((x::r).eraseIdx i) _ _ (by rw [ydd hi];simp at h ⊢;exact h) fun ys d' hp=>?_)
   exact wpAny_pure (q _ d' ((List.Perm.cons _ hp).trans (qec _ _ hi)))
theorem qdM {Q:Bool->Shared->Prop} (h:Q (w.params.followText "set-order") s):wpAny (model prog w) A setsByText Q E s:=by
 unfold setsByText
 exact wpAny_bind (wpAny_askSetting (wpAny_pure h))
end
end STb
namespace STb
open PySem PySem.SetTable PyProof.Rows
abbrev qiw (first:Value) (i:Nat) (S:Addr) (n ep:Nat):Obj:={ cls := .type "set_iterator",data := .fields #[first,.int i 0,.ref S,.int n 0,.int ep 0] }
abbrev qet (es:Array (Int×Value)) (ep:Nat) (t:SetTable):Obj:={ cls := .type "set",dict:=none,data := .set es ep t }
section
variable {prog:Program} {w:World} {A:Around} {E:Value->Shared->Prop} {s:Shared} {I S:Addr} {es:Array (Int×Value)} {ep:Nat} {t:SetTable}
theorem qcs {Q:Array (Int×Value)->Shared->Prop} (ho:s.heap.get? S=some (qet es ep t)) (hf:t.fits es.size=true) (h:Q es s):wpAny (model prog w) A (setEntries S) Q E s:=by
 unfold setEntries
 exact wpAny_bind (wpAny_setState_of ho rfl hf (wpAny_pure h))
end
end STb
namespace STb
open PySem PySem.SetTable PyProof.Rows
section
variable {prog:Program} {w:World} {A:Around} {E:Value->Shared->Prop} {s:Shared} {I S:Addr} {es:Array (Int×Value)} {ep:Nat} {t:SetTable}
theorem qms {α:Type} {Q:α->Shared->Prop} {E':Value->Shared->Prop} (hh:A.handled=none)
   (h:∀h' e,(∀b o,s.heap.get? b=some o->h'.get? b=some o)->Shared.TypeIs { s with heap:=h' } (.ref e) "StopIteration" -> E' (.ref e) { s with heap:=h' }) :
   wpAny (model prog w) A (do raiseNew (<-newExc (.type "StopIteration") []):Sem α) Q E' s:=by
 refine wpAny_bind ?_
 simp only [newExc,newTuple]
 refine wpAny_bind (wpAny_newObj_type ?_ (by size_fits))
 refine wpAny_bind (m:=firstArgMember _ _) (wpAny_of_eq (a:=Value.none) (by first | rfl | (simp only [firstArgMember];rfl)) ?_)
 refine wpAny_newObj_type ?_ (by size_fits)
 simp only [raiseNew]
 refine wpAny_bind (wpAny_handled ?_)
 rw [hh]
 refine wpAny_bind (wpAny_pure (wpAny_throw ?_))
 exact h _ _ (fun b o e=>ycr _ (ycr _ e)) ⟨_,ycq _ rfl,rfl⟩
theorem qhx {slot:Nat} {i:Nat} {Q:Option Value->Shared->Prop} (hh:A.handled=none) (hI:s.heap.get? I=some (qiw (.int slot 0) i S es.size ep)) (hS:s.heap.get? S=some (qet es ep t)) (hf:t.fits es.size=true)
   (hn:∀(A':Around) (E':Value->Shared->Prop) (Q':Option (Value×Nat)->Shared->Prop),Q' none s->wpAny (model prog w) A' (setNext S slot i ep) Q' E' s)
   (h:∀h',(∀b o,b≠I->s.heap.get? b=some o->h'.get? b=some o)->Q none { s with heap:=h' }):wpAny (model prog w) A (pyNext (.ref I)) Q E s:=by
 have ty:s.TypeIs (.ref I) "set_iterator" := ⟨_,hI,rfl⟩
 unfold pyNext
 refine wpAny_bind (wpAny_attempt (wpAny_callSpecial?_slot (name:=Str.ofString "__next__") ty qbS (wpAny_call_entry qbS ty qeN ?_ (qg5 _))))
 unfold Builtin.«set_iterator.__next__»
 refine wpAny_bind (m:=slotArgs "__next__" 0 ⟨[.ref I],[]⟩) (wpAny_pure (wpAny_bind (wpAny_fieldsOf hI rfl ?_)))
 refine wpAny_bind (m:=setEntries S) (qcs hS hf ?_)
 rw [if_neg (by simp)]
 refine wpAny_bind (m:=setNext S (slot:Int).toNat (i:Int).toNat (ep:Int).toNat) (hn _ _ _ ?_)
 refine wpAny_bind (wpAny_setField hI rfl (by simp) ?_)
 refine qms (by first | exact hh | simp [hh]) fun h' e kp tye=>?_
 refine wpAny_bind (wpAny_isInstance (T := "StopIteration") (b:=true) tye isSubtype_stop ?_)
 exact wpAny_pure (h _ fun b o hb q=>kp b o ((yde _ _ (Ne.symm hb)).trans q))
theorem qnq {T:Addr} {qcf:Array Value} {pn:Nat} {i p:Nat} {tk:Tok} {Q:Option Value->Shared->Prop} (hI:s.heap.get? I=some (qiw (.ref T) i S es.size ep)) (hT:s.heap.get? T=some { cls := .type "tuple",data := .seq qcf pn })
   (hS:s.heap.get? S=some (qet es ep t)) (hf:t.fits es.size=true) (hp:qcf[i]?=some (.int p tk)) {x:Int×Value} (hx:es[p]?=some x)
   (h:∀h',h'.get? I=some (qiw (.ref T) (i+1) S es.size ep)->Heap.SameBut I s.heap h'->Q (some x.2) { s with heap:=h' }):wpAny (model prog w) A (pyNext (.ref I)) Q E s:=by
 have ty:s.TypeIs (.ref I) "set_iterator" := ⟨_,hI,rfl⟩
 unfold pyNext
 refine wpAny_bind (wpAny_attempt (wpAny_callSpecial?_slot (name:=Str.ofString "__next__") ty qbS (wpAny_call_entry qbS ty qeN ?_ (qg5 _))))
 unfold Builtin.«set_iterator.__next__»
 refine wpAny_bind (m:=slotArgs "__next__" 0 ⟨[.ref I],[]⟩) (wpAny_pure (wpAny_bind (wpAny_fieldsOf hI rfl ?_)))
 refine wpAny_bind (m:=setEntries S) (qcs hS hf ?_)
 rw [if_neg (by simp)]
 refine wpAny_bind (m:=seqItems? (.ref T)) (wpAny_seqItems hT rfl ?_)
 dsimp only
 rw [show qcf[(i:Int).toNat]?=some (.int p tk) from hp]
 dsimp only
 refine wpAny_bind (m:=setNextDrawn S (p:Int).toNat (ep:Int).toNat) ?_
 unfold setNextDrawn
 refine wpAny_bind (wpAny_setState_of hS rfl hf ?_)
 dsimp only
 rw [if_neg (by simp),show es[(p:Int).toNat]?=some x from hx]
 refine wpAny_pure (wpAny_bind (wpAny_setField hI rfl (by simp) ?_))
 have g1:=ycn (Obj.mapFields (·.setIfInBounds 1 (rawInt ((i:Int)+1)))) hI rfl
 exact wpAny_pure ⟨_,rfl,wpAny_pure (h _ g1 (Heap.SameBut.update ..))⟩
theorem qhA {T:Addr} {qcf:Array Value} {pn:Nat} {i:Nat} {Q:Option Value->Shared->Prop} (hh:A.handled=none) (hI:s.heap.get? I=some (qiw (.ref T) i S es.size ep)) (hT:s.heap.get? T=some { cls := .type "tuple",data := .seq qcf pn })
   (hS:s.heap.get? S=some (qet es ep t)) (hf:t.fits es.size=true) (hp:qcf[i]?=none)
   (h:∀h',(∀b o,b≠I->s.heap.get? b=some o->h'.get? b=some o)->Q none { s with heap:=h' }):wpAny (model prog w) A (pyNext (.ref I)) Q E s:=by
 have ty:s.TypeIs (.ref I) "set_iterator" := ⟨_,hI,rfl⟩
 unfold pyNext
 refine wpAny_bind (wpAny_attempt (wpAny_callSpecial?_slot (name:=Str.ofString "__next__") ty qbS (wpAny_call_entry qbS ty qeN ?_ (qg5 _))))
 unfold Builtin.«set_iterator.__next__»
 refine wpAny_bind (m:=slotArgs "__next__" 0 ⟨[.ref I],[]⟩) (wpAny_pure (wpAny_bind (wpAny_fieldsOf hI rfl ?_)))
 refine wpAny_bind (m:=setEntries S) (qcs hS hf ?_)
 rw [if_neg (by simp)]
 refine wpAny_bind (m:=seqItems? (.ref T)) (wpAny_seqItems hT rfl ?_)
 dsimp only
 rw [show qcf[(i:Int).toNat]?=none from hp]
 dsimp only
 refine wpAny_bind (wpAny_setField hI rfl (by simp) ?_)
 have g1:=ycn (Obj.mapFields (·.setIfInBounds 0 (rawInt 0))) hI rfl
 refine wpAny_bind (wpAny_setField g1 rfl (by simp [Obj.mapFields]) ?_)
 refine qms (by first | exact hh | simp [hh]) fun h' e kp tye=>?_
 refine wpAny_bind (wpAny_isInstance (T := "StopIteration") (b:=true) tye isSubtype_stop ?_)
 exact wpAny_pure (h _ fun b o hb q=>kp b o ((yde _ _ (Ne.symm hb)).trans ((yde _ _ (Ne.symm hb)).trans q)))
theorem qep {slot i:Nat} {Q:Option (Value×Nat)->Shared->Prop} (hS:s.heap.get? S=some (qet es ep t)) (hf:t.fits es.size=true) (bt:w.params.followText "set-order" = true)
   (h:Q (((pickOrder (w.params.setOrder S ep) es)[i]?).map fun e=>(e.2,slot)) s):wpAny (model prog w) A (setNext S slot i ep) Q E s:=by
 unfold setNext
 refine wpAny_bind (wpAny_setState_of hS rfl hf (wpAny_bind (qdM ?_)))
 rw [bt,if_pos rfl,if_neg (by simp)]
 refine wpAny_bind ?_
 unfold setWalk
 refine wpAny_bind (wpAny_setState_of hS rfl hf (wpAny_bind (qdM ?_)))
 rw [bt,if_pos rfl]
 exact wpAny_bind (wpAny_askSetting (wpAny_pure (wpAny_pure h)))
theorem qdz {slot i:Nat} {Q:Option (Value×Nat)->Shared->Prop} (hS:s.heap.get? S=some (qet es ep t)) (hf:t.fits es.size=true) (bt:w.params.followText "set-order" = false) (ld:t.led=true) (dr:(!t.plain&&decide (es.size>1))=false)
   (h:Q (match es[SetTable.below t.place slot]?,t.place[SetTable.below t.place slot]? with | some (_,x),some j=>some (x,j+1) | _,_=>none) s):wpAny (model prog w) A (setNext S slot i ep) Q E s:=by
 unfold setNext
 refine wpAny_bind (wpAny_setState_of hS rfl hf (wpAny_bind (qdM ?_)))
 rw [bt,if_neg (by simp)]
 dsimp only
 split
 . rename_i z
   exfalso
   have z':(!t.plain&&decide (es.size>1))=true:=z
   rw [dr] at z'
   cases z'
 . show wpAny (model prog w) A ((if (!t.led&&!es.isEmpty)=true then unsupported "set:maker-not-led" else pure ()) >>= fun _=>pure _) Q E s
   rw [ld,if_neg (by simp)]
   exact wpAny_bind (wpAny_pure (wpAny_pure h))
end
end STb
namespace STb
open PySem PySem.SetTable PyProof.Rows
section
variable {prog:Program} {w:World} {A:Around} {E:Value->Shared->Prop} {s:Shared} {I S:Addr} {es:Array (Int×Value)} {ep:Nat} {t:SetTable}
theorem qng {wr:List Addr} {h':Heap} (k:∀b o,b∉wr->s.heap.get? b=some o->h'.get? b=some o):Moved wr Eq s { s with heap:=h' }:=⟨k,rfl,rfl,rfl,yax _⟩
theorem qmA {first:Value} {i n:Nat} {Q:Value->Shared->Prop} (hI:s.heap.get? I=some (qiw first i S n ep)) (h:Q (.ref I) s):wpAny (model prog w) A (pyIter (.ref I)) Q E s:=by
 have ty:s.TypeIs (.ref I) "set_iterator" := ⟨_,hI,rfl⟩
 have sl:Slot "set_iterator" "__iter__" "set_iterator.__iter__" :=
   Slot.of (owner := "set_iterator") (n := "__iter__") (by (rw [typeLookup_type,builtinLookup_eq_fast]);kernel_rfl) (by decide +kernel) (by decide +kernel) (by decide +kernel) (by first | (exact Or.inl (by decide +kernel)) | (exact Or.inr (by decide +kernel))) (by (rw [isSubtype_type]);kernel_rfl)
 have en:entryFor table "set_iterator.__iter__" = some Builtin.«dict_keyiterator.__iter__»:=entryFor_alias (id' := "dict_keyiterator.__iter__") (by kernel_rfl) (by decide +kernel) (by decide +kernel) (by kernel_rfl)
 refine wpAny_pyIter_slot ty sl (wpAny_call_entry sl ty en ?_ (by unfold argsOk;kernel_rfl))
 unfold Builtin.«dict_keyiterator.__iter__»
 first
   | exact wpAny_bind (wpAny_pure (wpAny_pure ⟨_,rfl, "set_iterator",_,ty,qbS.lookup,h⟩))
   | exact wpAny_pure ⟨_,rfl, "set_iterator",_,ty,qbS.lookup,h⟩
theorem qje (hh:A.handled=none) (hIS:I≠S) (hf:t.fits es.size=true) (out:List Value) (ho:out.length=es.size) (ok:Nat->Nat->Prop)
   (hn:∀(s:Shared) (A':Around) (E':Value->Shared->Prop) (Q':Option (Value×Nat)->Shared->Prop) (i slot:Nat) (x:Value),s.heap.get? S=some (qet es ep t)->ok i slot->out[i]?=some x ->
     ∃nx,ok (i+1) nx/\(Q' (some (x,nx)) s->wpAny (model prog w) A' (setNext S slot i ep) Q' E' s))
   (he:∀(s:Shared) (A':Around) (E':Value->Shared->Prop) (Q':Option (Value×Nat)->Shared->Prop) (slot:Nat),s.heap.get? S=some (qet es ep t)->ok es.size slot->Q' none s->wpAny (model prog w) A' (setNext S slot es.size ep) Q' E' s) :
   WalksS prog w A I [I,S] [I] Eq es.size (fun i v=>out[i]?=some v) (fun i s=>(∃slot:Nat,s.heap.get? I=some (qiw (.int (slot:Int) 0) i S es.size ep)/\ok i slot)/\s.heap.get? S=some (qet es ep t)) where
 sub:=fun b hb=>by simp at hb;simp [hb]
 grefl:=fun _=>rfl
 gtrans:=fun _ _ _ h1 h2=>h1.trans h2
 frame:=fun i s h' tk st _ k=>by
   obtain ⟨⟨slot,e,o⟩,e2⟩:=st
   exact ⟨⟨slot,k I (by simp) _ e,o⟩,k S (by simp) _ e2⟩
 item:=fun i s Q E hi st q=>by
   obtain ⟨⟨slot,e,o⟩,e2⟩:=st
   have hx:out[i]?=some out[i]:=ydc (by omega)
   obtain ⟨nx,o',_⟩:=hn s A E (fun _ _=>True) i slot _ e2 o hx
   have hn':∀(A':Around) (E':Value->Shared->Prop) (Q':Option (Value×Nat)->Shared->Prop),∃nx,ok (i+1) nx/\(Q' (some (out[i],nx)) s->wpAny (model prog w) A' (setNext S slot i ep) Q' E' s):=fun A' E' Q'=>hn s A' E' Q' i slot _ e2 o hx
   unfold pyNext
   have ty:s.TypeIs (.ref I) "set_iterator" := ⟨_,e,rfl⟩
   refine wpAny_bind (wpAny_attempt (wpAny_callSpecial?_slot (name:=Str.ofString "__next__") ty qbS (wpAny_call_entry qbS ty qeN ?_ (qg5 _))))
   unfold Builtin.«set_iterator.__next__»
   refine wpAny_bind (m:=slotArgs "__next__" 0 ⟨[.ref I],[]⟩) (wpAny_pure (wpAny_bind (wpAny_fieldsOf e rfl ?_)))
   refine wpAny_bind (m:=setEntries S) (qcs e2 hf ?_)
   rw [if_neg (by simp)]
   refine wpAny_bind (m:=setNext S (slot:Int).toNat (i:Int).toNat (ep:Int).toNat) ?_
   obtain ⟨nx,o',go⟩:=hn' _ _ _
   refine go ?_
   refine wpAny_bind (wpAny_setField e rfl (by simp) ?_)
   have g1:=ycn (Obj.mapFields (·.setIfInBounds 0 (rawInt nx))) e rfl
   refine wpAny_bind (wpAny_setField g1 rfl (by simp [Obj.mapFields]) ?_)
   have g2:=ycn (Obj.mapFields (·.setIfInBounds 1 (rawInt ((i:Int)+1)))) g1 rfl
   have kp:∀b o,b≠I->s.heap.get? b=some o->((s.heap.update I (Obj.mapFields (·.setIfInBounds 0 (rawInt nx)))).update I (Obj.mapFields (·.setIfInBounds 1 (rawInt ((i:Int)+1))))).get? b=some o:=fun b o hb z =>
     (yde _ _ (Ne.symm hb)).trans ((yde _ _ (Ne.symm hb)).trans z)
   exact wpAny_pure ⟨_,rfl,wpAny_pure (q _ _ hx ⟨⟨nx,g2,o'⟩,kp S _ (Ne.symm hIS) e2⟩ (qng fun b o hb z=>kp b o (fun y=>hb (by simp [y])) z))⟩
 done:=fun s Q E st q=>by
   obtain ⟨⟨slot,e,o⟩,e2⟩:=st
   exact qhx hh e e2 hf (fun A' E' Q' q'=>he s A' E' Q' slot e2 o q') fun h' kp=>q _ (qng fun b o hb z=>kp b o (fun y=>hb (by simp [y])) z)
 self:=fun i s Q E st q=>by
   obtain ⟨⟨slot,e,o⟩,e2⟩:=st
   exact qmA e q
theorem qm6 {T:Addr} {qcf:List Nat} {pn:Nat} (hh:A.handled=none) (hIS:I≠S) (hIT:I≠T) (hf:t.fits es.size=true) (out:List Value) (hl:qcf.length=es.size) (ho:∀(i p:Nat),qcf[i]?=some p->∃x,es[p]?=some x/\out[i]?=some x.2) :
   WalksS prog w A I [I,S,T] [I] Eq es.size (fun i v=>out[i]?=some v) (fun i s=>s.heap.get? I=some (qiw (.ref T) i S es.size ep)/\s.heap.get? S=some (qet es ep t)/\s.heap.get? T=some { cls := .type "tuple",data := .seq (qcf.map fun (p:Nat)=>rawInt p).toArray pn }) where
 sub:=fun b hb=>by simp at hb;simp [hb]
 grefl:=fun _=>rfl
 gtrans:=fun _ _ _ h1 h2=>h1.trans h2
 frame:=fun i s h' tk st _ k=>by
   obtain ⟨e,e2,e3⟩:=st
   exact ⟨k I (by simp) _ e,k S (by simp) _ e2,k T (by simp) _ e3⟩
 item:=fun i s Q E hi st q=>by
   obtain ⟨e,e2,e3⟩:=st
   have hp:qcf[i]?=some qcf[i]:=ydc (by omega)
   obtain ⟨x,hx,hy⟩:=ho i _ hp
   refine qnq (p:=qcf[i]) (tk:=0) e e3 e2 hf (by rw [List.getElem?_toArray,ydf,hp];rfl) hx fun h' g sb=>?_
   exact q _ _ hy ⟨g,sb.extBut _ _ (Ne.symm hIS) e2,sb.extBut _ _ (Ne.symm hIT) e3⟩ (qng fun b o hb z=>sb.extBut b o (fun y=>hb (by simp [y])) z)
 done:=fun s Q E st q=>by
   obtain ⟨e,e2,e3⟩:=st
   exact qhA hh e e3 e2 hf (by simp [hl]) fun h' kp=>q _ (qng fun b o hb z=>kp b o (fun y=>hb (by simp [y])) z)
 self:=fun i s Q E st q=>qmA st.1 q
end
end STb
namespace STb
open PySem PySem.SetTable PyProof.Rows
section
variable {prog:Program} {w:World} {A:Around} {E:Value->Shared->Prop} {s:Shared} {I S:Addr} {es:Array (Int×Value)} {ep:Nat} {t:SetTable}
theorem qnR {Q:Bool->Shared->Prop} (hS:s.heap.get? S=some (qet es ep t)) (hf:t.fits es.size=true) (h:Q (!w.params.followText "set-order" && (!t.plain&&decide (es.size>1))) s):wpAny (model prog w) A (setDrawn S) Q E s:=by
 unfold setDrawn
 exact wpAny_bind (wpAny_setState_of hS rfl hf (wpAny_bind (qdM (wpAny_pure h))))
theorem qhW:Slot "set" "__iter__" "set.__iter__" := PySem.F.slot_set_iter
theorem qqp {ns:List Int} {Q:Value->Shared->Prop} (hh:A.handled=none) (r:RS prog w s.heap S ns)
   (h:∀(I:Addr) (fp:List Addr) (n:Nat) (out:List Value) (ms:List Int) (St:Nat->Shared->Prop) (s':Shared),(∀A':Around,A'.handled=none->WalksS prog w A' I fp [I] Eq n (fun i v=>out[i]?=some v) St)->St 0 s'->I∈fp->(∀b∈fp,b<s'.heap.objs.size)->(∀b∈fp,b=S\/s.heap.objs.size<=b)->s.heap.objs.size<=I ->
     IntsAre out ms->ms.Perm ns->out.length=n->(∀b o,s.heap.get? b=some o->s'.heap.get? b=some o)->s'.gens=s.gens->s'.os=s.os->s.toks<=s'.toks->Q (.ref I) s') :
   wpAny (model prog w) A (pyIter (.ref S)) Q E s:=by
 obtain ⟨es,ep,t,hS,el,pm,bd,ft,rs,ld,nd⟩:=r
 have ty:s.TypeIs (.ref S) "set" := ⟨_,hS,rfl⟩
 have intsOf:∀l:List (Int×Value),(∀e∈l,∃k,kI e.2=some k)->∃ms,IntsAre (l.map (·.2)) ms/\l.map (fun e=>kI e.2)=ms.map some:=fun l=>by
   induction l with
   | nil=>intro _;exact ⟨[],.nil,rfl⟩
   | cons e l ih =>
     intro q
     obtain ⟨ms,a,b⟩:=ih fun x hx=>q x (ybe _ hx)
     obtain ⟨k,hk⟩:=q e ybb
     obtain ⟨hsh,v⟩:=e
     cases v<;>first
       | (rename_i m tk;cases hk;exact ⟨_::ms,.cons _ _ a,by rw [ych,ych,b];rfl⟩)
       | cases hk
 have allk:∀e∈es.toList,∃k,kI e.2=some k:=fun e he=>by
   obtain ⟨⟨k,q,_⟩,_⟩:=el e he
   exact ⟨k,qpa.mp q⟩
 have perm:∀l:List (Int×Value),l.Perm es.toList->∃ms,IntsAre (l.map (·.2)) ms/\ms.Perm ns:=fun l hp=>by
   obtain ⟨ms,a,b⟩:=intsOf l fun e he=>allk e (hp.mem_iff.mp he)
   refine ⟨ms,a,?_⟩
   have q:(ms.map some).Perm (ns.map some):=by
     rw [<-b]
     exact (hp.map _).trans pm
   have q':=q.map (fun o:Option Int=>o.getD 0)
   simpa [ydg,Function.comp_def] using q'
 have plc:t.place.size=es.size:=by
   simp only [SetTable.fits,yab,beq_iff_eq] at ft
   exact ft.1
 refine wpAny_pyIter_slot ty qhW (wpAny_call_entry qhW ty qj7 ?_ (PySem.F.args_set_iter_1 _))
 unfold Builtin.«frozenset.__iter__»
 refine wpAny_bind (m:=Builtin.Frozenset.slot0 "__iter__" ⟨[.ref S],[]⟩) (wpAny_bind (wpAny_pure (wpAny_pure ?_)))
 refine wpAny_bind (m:=Builtin.Frozenset.sizeOf S) (wpAny_bind (qcs hS ft (wpAny_pure ?_)))
 refine wpAny_bind (m:=setDrawn S) (qnR hS ft ?_)
 have hlt:S<s.heap.objs.size:=ycs hS
 cases bt:w.params.followText "set-order" with
 | true =>
   rw [if_neg (by simp)]
   refine wpAny_bind (wpAny_pure (wpAny_bind (wpAny_setEpoch_of hS rfl ft (wpAny_bind (wpAny_newObj_type (wpAny_pure ⟨_,rfl, "set_iterator",_,⟨_,ycq _ rfl,rfl⟩,qbS.lookup,?_⟩))))))
   obtain ⟨ms,a,b⟩:=perm _ (qe7 (w.params.setOrder S ep) es)
   have lo:((pickOrder (w.params.setOrder S ep) es).toList.map (·.2)).length=es.size:=by rw [ycj,(qe7 _ _).length_eq,yca]
   refine h s.heap.objs.size [s.heap.objs.size,S] es.size _ ms _ _ (fun A' hA'=>qje (t:=t) (ep:=ep) hA' (ycx hlt) ft _ lo (fun _ _=>True) (fun s A' E' Q' i slot x e _ hx=>⟨slot,trivial,fun q=>qep e ft bt ?_⟩) fun s A' E' Q' slot e _ q=>qep e ft bt ?_)
     ⟨⟨0,ycq _ rfl,trivial⟩,ycr _ hS⟩ (by simp) (fun b hb=>?_) (fun b hb=>(ybd.mp hb).elim (fun z => .inr (ydh z.symm)) fun z => .inl (ydi.mp z)) (yax _) a b lo (fun b o e=>ycr _ e) rfl rfl (yax _)
   . rw [ydf,ybq] at hx
     cases z:(pickOrder (w.params.setOrder S ep) es)[i]? with
     | none=>rw [z] at hx;cases hx
     | some y=>rw [z] at hx;cases hx;exact q
   . rw [ybw (by rw [<-yca,(qe7 _ _).length_eq,yca];exact yax _)]
     exact q
   . rw [yct]
     rcases ybd.mp hb with z | z
     . rw [z];exact ybx _
     . rw [ydi.mp z];exact ycv hlt
 | false =>
   rw [bt] at ld
   cases dr:(!t.plain&&decide (es.size>1)) with
   | false =>
     rw [if_neg (by simp)]
     refine wpAny_bind (wpAny_pure (wpAny_bind (wpAny_setEpoch_of hS rfl ft (wpAny_bind (wpAny_newObj_type (wpAny_pure ⟨_,rfl, "set_iterator",_,⟨_,ycq _ rfl,rfl⟩,qbS.lookup,?_⟩))))))
     obtain ⟨ms,a,b⟩:=perm _ (List.Perm.refl _)
     have lo:(es.toList.map (·.2)).length=es.size:=by rw [ycj,yca]
     refine h s.heap.objs.size [s.heap.objs.size,S] es.size _ ms _ _ (fun A' hA'=>qje (t:=t) (ep:=ep) hA' (ycx hlt) ft _ lo (fun i slot=>SetTable.below t.place slot=i) (fun s A' E' Q' i slot x e o hx=>?_) fun s A' E' Q' slot e o q=>qdz e ft bt ld dr ?_)
       ⟨⟨0,ycq _ rfl,qjM rs⟩,ycr _ hS⟩ (by simp) (fun b hb=>?_) (fun b hb=>(ybd.mp hb).elim (fun z => .inr (ydh z.symm)) fun z => .inl (ydi.mp z)) (yax _) a b lo (fun b o e=>ycr _ e) rfl rfl (yax _)
     . rw [ydf,ybq] at hx
       have hi:i<es.size:=by
         rcases yag i es.size with z | z
         . exact z
         . rw [ybw z] at hx;cases hx
       have hp:t.place[i]?=some t.place[i]:=by simp [plc,hi]
       refine ⟨t.place[i]+1,qkb rs hp,fun q=>qdz e ft bt ld dr ?_⟩
       rw [o,hp]
       cases z:es[i]? with
       | none=>rw [z] at hx;cases hx
       | some y=>rw [z] at hx;cases hx;exact q
     . rw [o,ybw (yax _)]
       exact q
     . rw [yct]
       rcases ybd.mp hb with z | z
       . rw [z];exact ybx _
       . rw [ydi.mp z];exact ycv hlt
   | true =>
     rw [if_pos (by simp)]
     refine wpAny_bind (qkS es.size (List.range es.size) s _ (by simp) fun ys d hp=>wpAny_bind ?_)
     have ly:ys.length=es.size:=by rw [hp.length_eq];simp
     refine wpAny_newTuple ?_ (by rw [ycj,ly];exact fits_of_scanBound bd)
     refine wpAny_bind (wpAny_setEpoch_of (o:=qet es ep t) (ycr _ hS) rfl ft (wpAny_bind (wpAny_newObj_type (wpAny_pure ⟨_,rfl, "set_iterator",_,⟨_,ycq _ rfl,rfl⟩,qbS.lookup,?_⟩))))
     have hy:∀p∈ys,p<es.size:=fun p hm=>ybh.mp (hp.mem_iff.mp hm)
     have pl:(ys.map fun p=>es.getD p (0,.none)).Perm es.toList:=by
       have e:es.toList=(List.range es.size).map fun p=>es.getD p (0,.none):=by
         refine ydj (by simp) fun i h1 h2=>?_
         have:i<es.size:=by simpa using h1
         simp [Array.getD,this]
       rw [e]
       exact hp.map _
     obtain ⟨ms,a,b⟩:=perm _ pl
     have n1:(s.heap.push { cls:=Value.type "tuple",data:=Data.seq (ys.map fun (p:Nat)=>rawInt p).toArray }).objs.size=s.heap.objs.size+1:=yct ..
     refine h _ [_,S,s.heap.objs.size] es.size _ ms _ _ (fun A' hA'=>qm6 (T:=s.heap.objs.size) (pn:=0) (t:=t) (ep:=ep) hA' (by rw [n1];exact ycx (ycv hlt)) (by rw [n1];exact ycx (ybx _)) ft _ ly fun i p hip=>?_)
       ⟨ycq _ rfl,ycr _ (ycr _ hS),ycr _ (ycq _ rfl)⟩ (by simp) (fun b hb=>?_) (fun b hb=>?_) (by rw [n1];exact ycp _) a b (by rw [ycj,ycj,ly]) (fun b o e=>ycr _ (ycr _ e)) rfl rfl (yax _)
     . have hm:=hy p (ydk hip)
       refine ⟨es[p],by simp [hm],?_⟩
       rw [ydf,ydf,hip]
       simp [Array.getD,hm]
     . rw [yct,n1]
       simp only [ybd,ycw,or_false] at hb
       rcases hb with z | z | z
       . rw [z]
         exact ybi (ydh n1) (ybx _)
       . rw [z];exact ycv (ycv hlt)
       . rw [z];exact ycv (ybx _)
     . simp only [ybd,ycw,or_false] at hb
       rcases hb with z | z | z
       . right
         rw [z,n1]
         exact ycp _
       . exact .inl z
       . exact .inr (ydh z.symm)
end
end STb
namespace STb
open PySem PySem.SetTable PyProof.Rows
section
variable {prog:Program} {w:World} {A:Around} {E:Value->Shared->Prop} {s:Shared} {I S:Addr}
theorem qgD {out:List Value} {n:Nat} (ho:out.length=n) {acc:Array Value} (h:ItemsOf (fun i v=>out[i]?=some v) acc n):acc.toList=out:=by
 refine List.ext_getElem? fun i=>?_
 rw [ybq]
 rcases yag i n with z | z
 . have hs:i<acc.size:=by rw [h.1];exact z
   have:=h.2 i acc[i] (by simp [hs])
   rw [this]
   simp [hs]
 . rw [ybw (by rw [h.1];exact z),List.getElem?_eq_none (by omega)]
theorem qh6 {ns:List Int} {Q:List Value->Shared->Prop} (hh:A.handled=none) (r:RS prog w s.heap S ns)
   (h:∀(s':Shared) (vs:List Value) (ms:List Int),IntsAre vs ms->ms.Perm ns->(∀b o,s.heap.get? b=some o->s'.heap.get? b=some o)->s.heap.objs.size<s'.heap.objs.size->s'.gens=s.gens->s'.os=s.os->Q vs s') :
   wpAny (model prog w) A (collect (.ref S)) Q E s:=by
 have hlen:=r.len
 have hSlt:S<s.heap.objs.size:=by
   obtain ⟨es,ep,t,e,_⟩:=r
   exact ycs e
 unfold collect
 refine wpAny_bind (wpAny_runValue (codeAny_builtin F.entry_proto_collect ?_))
 rw [Around.under_plainId F.plain_proto_collect _]
 refine wpAny_bind (m:=newList []) (wpAny_newObj_type ?_)
 refine wpAny_pure ⟨plainId_quiet F.plain_list_iadd _,codeAny_builtin F.entry_list_iadd ?_⟩
 rw [Around.under_plainId F.plain_list_iadd _]
 have r1:RS prog w (s.heap.push { cls := .type "list",data := .seq ([]:List Value).toArray }) S ns:=r.keep fun o e=>ycr _ e
 have ty1:Shared.TypeIs { s with heap:=s.heap.push { cls := .type "list",data := .seq ([]:List Value).toArray } } (.ref S) "set" := by
   obtain ⟨es,ep,t,e,_⟩:=r1
   exact ⟨_,e,rfl⟩
 show wpAny _ A.in1 (Builtin.List.listExtendWith (.ref s.heap.objs.size) (.ref S) (.ref s.heap.objs.size)) _ _ _
 unfold Builtin.List.listExtendWith
 refine wpAny_bind (wpAny_typeOf ty1 ?_)
 have d1:Builtin.List.listSameRef (.ref s.heap.objs.size) (.ref S)=false:=by
   simp only [Builtin.List.listSameRef,beq_eq_false_iff_ne,ne_eq]
   exact ycx hSlt
 have d2:(Value.type "set" == Value.type "list")=false:=by decide
 have d3:(Value.type "set" == Value.type "tuple")=false:=by decide
 simp only [d1,d2,d3,ydl,ydm,if_false]
 have hh1:A.in1.handled=none:=by simp [hh]
 refine wpAny_bind (qqp hh1 r1 fun I fp n out ms St s2 W st0 hI hfp hfs hge hi hp ho kp eg eo htk=>?_)
 have ty2:s2.TypeIs (.ref S) "set" := by
   obtain ⟨es,ep,t,e,_⟩:=r1
   exact ⟨_,kp _ _ e,rfl⟩
 refine wpAny_bind (wpAny_holding ?_)
 unfold Builtin.List.listLengthHint
 refine wpAny_bind (wpAny_specialOf ty2 qhr ?_)
 refine wpAny_bind (m:=isInstance (.ref S) (.type "set")) (wpAny_isInstance ty2 qiU ?_)
 simp only [Bool.not_true,ydm,if_false]
 refine wpAny_ite_split (fun _=>?_) (fun z=>absurd (by decide +kernel) z)
 refine wpAny_bind (wpAny_typeOf ty2 (wpAny_pure ?_))
 refine wpAny_ite_split (fun _=>?_) (fun z=>absurd (by decide +kernel) z)
 refine wpAny_bind (wpAny_rule ?_)
 have g0:(s.heap.push { cls := .type "list",data := .seq ([]:List Value).toArray }).get? s.heap.objs.size=some { cls := .type "list",data := .seq ([]:List Value).toArray }:=ycq _ rfl
 have g2:=kp _ _ g0
 have Iout:s.heap.objs.size<I:=by
   rw [yct] at hge
   exact hge
 refine wpAny_bind (m:=Builtin.List.listTouch (.ref s.heap.objs.size)) ?_
 refine wpAny_bind (m:=updateSeq s.heap.objs.size (·.push .none)) (wpAny_updateSeq g2 rfl ?_)
 have g3:=ycn (Obj.mapSeq (·.push Value.none)) g2 rfl
 refine wpAny_updateSeq g3 rfl ?_
 have g4:=ycn (Obj.mapSeq (·.pop)) g3 rfl
 have oth:∀b o,b≠s.heap.objs.size->s2.heap.get? b=some o->((s2.heap.update s.heap.objs.size (Obj.mapSeq (·.push Value.none))).update s.heap.objs.size (Obj.mapSeq (·.pop))).get? b=some o :=
   fun b o hb e=>(yde _ _ (Ne.symm hb)).trans ((yde _ _ (Ne.symm hb)).trans e)
 have hSf:s.heap.objs.size∉fp:=fun z=>by
   rcases hfs _ z with y | y
   . exact absurd hSlt (by rw [<-y];exact ydn _)
   . rw [yct] at y
     exact ydn _ y
 have W1:=W A.in1 (by simp [hh])
 have hn:n<=sizeLine:=by
   have e1:=hi.length
   have e2:=hp.length_eq
   have:=fits_of_scanBound hlen
   omega
 refine wpAny_pure ⟨plainId_quiet F.plain_extend_loop _,codeAny_extend_loopS W1 hn _ hSf _ n 0 _ _ _ rfl (ybv _) (W1.frame 0 s2 _ s2.toks st0 (yax _) fun b hb o e=>oth b o (fun z=>hSf (z▸hb)) e) g4 (ItemsOf.nil _) fun s3 acc c mv gS hacc=>?_⟩
 refine wpAny_bind (wpAny_load gS (wpAny_pure ?_))
 rw [qgD ho hacc]
 refine h s3 out ms hi hp (fun b o e=>?_) (ycs gS) (mv.gens.symm.trans eg) (mv.os.trans eo)
 have hb:b≠s.heap.objs.size:=ycu (ycs e)
 have hbI:b≠I:=ycu (ybl (ycs e) Iout)
 exact mv.heap b o (by simp only [ybd,ycw,or_false,not_or];exact ⟨hb,hbI⟩) (oth b o hb (kp b o (ycr _ e)))
end
end STb
namespace L2
open PySem PySem.Spec PyProof.Rows
abbrev Key:=Sum Int Str
def qj2:Key->Value->Bool
 | .inl k,v=>Value.isInt k v
 | .inr x,v=>Value.isStrOf x v
def quj (w:World):Key->Int
 | .inl k=>hashInt k
 | .inr x=>hashStr w x
theorem qa4:∀{k:Key} {v:Value},qj2 k v=true->(∃i t,k=Sum.inl i/\v=Value.int i t)\/(∃x t,k=Sum.inr x/\v=Value.str x t)
 | .inl i,v,h=>by
   obtain ⟨t,e⟩:=Value.isInt_shape (k:=i) (v:=v) h
   exact .inl ⟨i,t,rfl,e⟩
 | .inr x,v,h=>by
   obtain ⟨t,e⟩:=Value.isStrOf_shape (x:=x) (v:=v) h
   exact .inr ⟨x,t,rfl,e⟩
theorem qk6 (i:Int) (t:Tok):qj2 (.inl i) (.int i t)=true:=by simp [qj2,Value.isInt]
theorem qkz (x:Str) (t:Tok):qj2 (.inr x) (.str x t)=true:=by simp [qj2,Value.isStrOf]
theorem qqV (a b:Int):decide ((Sum.inl a:Key)=Sum.inl b)=(a==b):=by
 by_cases e:a=b
 . subst e;simp
 . have h:¬(Sum.inl a:Key)=Sum.inl b:=fun q=>e (Sum.inl.inj q)
   rw [decide_eq_false h]
   exact (beq_eq_false_iff_ne.mpr e).symm
theorem qr1 (a b:Str):decide ((Sum.inr a:Key)=Sum.inr b)=decide (a=b):=by
 by_cases e:a=b
 . subst e;simp
 . have h:¬(Sum.inr a:Key)=Sum.inr b:=fun q=>e (Sum.inr.inj q)
   rw [decide_eq_false h,decide_eq_false e]
theorem qrB (a:Int) (b:Str):decide ((Sum.inl a:Key)=Sum.inr b)=false:=decide_eq_false (fun q=>nomatch q)
theorem qrs (a:Str) (b:Int):decide ((Sum.inr a:Key)=Sum.inl b)=false:=decide_eq_false (fun q=>nomatch q)
def qbd (prog:Program) (w:World):PySem.KeyKind prog w Key where
 is:=qj2
 hash:=quj w
 inj:=fun v a b ha hb=>by
   rcases qa4 ha with ⟨i,t,rfl,rfl⟩ | ⟨x,t,rfl,rfl⟩
   . rcases qa4 hb with ⟨j,u,rfl,e⟩ | ⟨y,u,rfl,e⟩
     . injection e with e1 _;rw [e1]
     . exact nomatch e
   . rcases qa4 hb with ⟨j,u,rfl,e⟩ | ⟨y,u,rfl,e⟩
     . exact nomatch e
     . injection e with e1 _;rw [e1]
 byValue:=fun k v h=>by
   rcases qa4 h with ⟨i,t,rfl,rfl⟩ | ⟨x,t,rfl,rfl⟩<;>rfl
 pyHash:=fun hv h=>by
   rcases qa4 hv with ⟨i,t,rfl,rfl⟩ | ⟨x,t,rfl,rfl⟩
   . exact wpAny_pyHash_int h
   . exact wpAny_pyHash_str h
 eqBool:=fun hu hv h=>by
   rcases qa4 hu with ⟨i,t,rfl,rfl⟩ | ⟨x,t,rfl,rfl⟩
   . rcases qa4 hv with ⟨j,u,rfl,rfl⟩ | ⟨y,u,rfl,rfl⟩
     . rw [qqV] at h;exact wpAny_eqBool_int h
     . rw [qrB] at h;exact SeqAt.EqAt.int_str i t y u _ _ _ _ h
   . rcases qa4 hv with ⟨j,u,rfl,rfl⟩ | ⟨y,u,rfl,rfl⟩
     . rw [qrs] at h;exact SeqAt.EqAt.str_int x t j u _ _ _ _ h
     . rw [qr1] at h;exact wpAny_eqBool_str h
 «strs»:=fun k x t v h=>by
   rcases qa4 h with ⟨i,u,rfl,e⟩ | ⟨y,u,rfl,e⟩
   . exact nomatch e
   . injection e with e1 _
     subst e1
     cases v<;>rfl
theorem qim (prog:Program) (w:World) (i:Int) (t:Tok):(qbd prog w).is (.inl i) (.int i t)=true:=qk6 i t
theorem qip (prog:Program) (w:World) (x:Str) (t:Tok):(qbd prog w).is (.inr x) (.str x t)=true:=qkz x t
end L2
namespace L2
open PySem PySem.Spec PyProof.Rows
inductive V where
 | non | bl (b:Bool) | int (i:Int) | str (x:Str) | byt (b:Array UInt8) | flt (b:UInt64) | ref (a:Addr) | ty (n:String)
 deriving DecidableEq
def qbo:V->Value->Prop
 | .non,u=>u=Value.none
 | .bl b,u=>u=Value.bool b
 | .int i,u=>∃t,u=Value.int i t
 | .str x,u=>∃t,u=Value.str x (t+1)
 | .byt b,u=>∃t,u=Value.bytes b t
 | .flt b,u=>∃t,u=Value.float b t
 | .ref a,u=>u=Value.ref a
 | .ty n,u=>u=Value.type n
abbrev qa6:List V->List Value->Prop:=Paired qbo
theorem qa6.length {xs:List V} {us:List Value} (r:qa6 xs us):xs.length=us.length:=Paired.length r
theorem qa6.get:∀{xs:List V} {us:List Value} {i:Nat} {x:V},qa6 xs us->xs[i]?=some x->∃u,us[i]?=some u/\qbo x u
 | _,_,_,_,.nil,e=>by simp at e
 | _,_,0,_,.cons r _,e=>by simp at e;subst e;exact ⟨_,rfl,r⟩
 | _,_,i+1,x,.cons _ t,e=>by
   obtain ⟨u,h1,h2⟩:=qa6.get (i:=i) (x:=x) t (by simpa using e)
   exact ⟨u,by simpa using h1,h2⟩
theorem qa6.set {x:V} {u:Value} (r:qbo x u):∀{xs:List V} {us:List Value} (i:Nat),qa6 xs us->qa6 (xs.set i x) (us.set i u)
 | _,_,_,.nil => .nil
 | _,_,0,.cons _ t => .cons r t
 | _,_,i+1,.cons q t => .cons q (qa6.set r i t)
theorem qa6.append:∀{xs ys:List V} {us ws:List Value},qa6 xs us->qa6 ys ws->qa6 (xs++ys) (us++ws)
 | _,_,_,_,.nil,s=>s
 | _,_,_,_,.cons r t,s => .cons r (qa6.append t s)
theorem qa6.take:∀{xs:List V} {us:List Value} (n:Nat),qa6 xs us->qa6 (xs.take n) (us.take n)
 | _,_,0,_ => .nil
 | _,_,_+1,.nil => .nil
 | _,_,n+1,.cons r t => .cons r (qa6.take n t)
theorem qa6.drop:∀{xs:List V} {us:List Value} (n:Nat),qa6 xs us->qa6 (xs.drop n) (us.drop n)
 | _,_,0,r=>r
 | _,_,_+1,.nil => .nil
 | _,_,n+1,.cons _ t=>qa6.drop n t
def qhH:Option V->Option Value->Prop
 | some v,some u=>qbo v u
 | none,none=>True
 | _,_=>False
def KV {κ:Type}:List (κ×V)->List (κ×Value)->Prop:=Paired fun (p:κ×V) (q:κ×Value)=>p.1=q.1/\qbo p.2 q.2
def kV:Key->V
 | .inl i => .int i
 | .inr x => .str x
inductive HO where
 
 | lst (xs:List V)
 
 | tup (xs:List V)
 
 | dK (kvs:List (Key×V)) | dT (kvs:List (List Key×V))
 
 | set (S:Int->Bool) (n:Nat)
 
 | ins (C dx:Addr) (fs:List (Str×V))
 
 | own (x:Addr)
 
 | xd (fs:List (Str×V))
 
 | met (f x:Addr)
 
 | rng (lo hi:Int)
 
 | frz (o:Obj) (u:HO)
 
 | tbl (ps:Array Value)
 
 | ext (φ:Heap->Prop)
abbrev Hp:=Addr->Option HO
def upd (H:Hp) (a:Addr) (o:HO):Hp:=fun b=>if b=a then some o else H b
theorem qai {H:Hp} {a:Addr} {o:HO}:upd H a o a=some o:=by unfold upd;rw [if_pos rfl]
theorem qaq {H:Hp} {a b:Addr} {o:HO} (h:b≠a):upd H a o b=H b:=by unfold upd;rw [if_neg h]
theorem qeR {H:Hp} {a:Addr} {o u:HO}:upd (upd H a o) a u=upd H a u:=by
 funext b;unfold upd;split<;>rfl
theorem qsR {H:Hp} {a b:Addr} {o u:HO} (h:H a=some o) (h':H b=some u) (d:o≠u):a≠b:=by
 intro e;subst e;rw [h] at h';exact d (Option.some.inj h')
theorem qay {H:Hp} {a b:Addr} {o:HO} (h:H a=some o) (h':H b=none):a≠b:=by
 intro e;subst e;rw [h] at h';cases h'
section
variable (P:Program) (w:World)
def qbs (H:Hp) (h:Heap) (a:Addr):HO->Prop
 | .lst xs=>xs.length<=sizeLine/\∃(its:List Value) (n:Nat),qa6 xs its/\h.get? a=some { cls := .type "list",data := .seq its.toArray n }
 | .tup xs=>xs.length<=sizeLine/\∃its:List Value,qa6 xs its/\IsTup h a its.toArray
 | .dK kvs=>kvs.length<=sizeLine/\(a==sysModules)=false/\∃vs,KV kvs vs/\h.DictOf (qbd P w) a vs
 | .dT kvs=>kvs.length<=sizeLine/\(a==sysModules)=false/\∃xs:List (List Key×Addr×Value),
     Paired (fun (p:List Key×V) (q:List Key×Addr×Value)=>p.1=q.1/\H q.2.1=some (.tup (p.1.map kV))/\qbo p.2 q.2.2) kvs xs /\
     ∃o es ep,h.get? a=some o/\o.ExactDict/\o.data = .dict es ep/\es.toList=xs.map (entryOfKey (tupleKind (qbd P w)))/\(xs.map (·.1)).Nodup
 | .set S n=>h.SetOf (intKind P w) a S n
 | .ins C dx fs=>H dx=some (.own a)/\fs.length<=1000/\dx≠a/\h.get? a=some (PySem.W.instObj C dx) /\
     ∃mA,h.Ns1 dx mA/\(∀f,qhH (fs.lookup f) (mA f))/\PySem.Within mA (fs.map (·.1))
 | .own _=>∃o,h.get? a=some o
 | .xd fs=>∃mA,h.Ns1 a mA/\∀f,qhH (fs.lookup f) (mA f)
 | .rng lo hi=>∃t u v,h.get? a=some { cls := .type "range",data := .fields #[.int lo t,.int hi u,.int 1 v] }
 | .frz o u=>h.get? a=some o/\qbs H h a u
 | .tbl ps=>h.get? a=some { cls := .none,data := .fields ps }
 | .met f x=>h.get? a=some (PySem.W.methodObj (.ref f) (.ref x))
 | .ext φ=>φ h/\(∃o,h.get? a=some o)/\∀h1 h2:Heap,φ h1->(∀o,h1.get? a=some o->h2.get? a=some o)->φ h2
def HOk (H:Hp) (h:Heap):Prop:=∀a o,H a=some o->qbs P w H h a o
end
section
variable {P:Program} {w:World} {H H':Hp} {h h':Heap} {a:Addr} {o:HO}
theorem qbs.lt (x:qbs P w H h a o):a<h.objs.size:=by
 cases o with
 | lst xs=>obtain ⟨_,_,_,_,e⟩:=x;exact ycs e
 | tup xs=>obtain ⟨_,_,_,p⟩:=x;exact p.lt
 | dK kvs=>obtain ⟨_,_,_,_,o,_,_,e,_⟩:=x;exact ycs e
 | dT kvs=>obtain ⟨_,_,_,_,o,_,_,e,_⟩:=x;exact ycs e
 | set S n=>obtain ⟨o,_,_,_,e,_⟩:=x;exact ycs e
 | ins C dx fs=>obtain ⟨_,_,_,e,_⟩:=x;exact ycs e
 | own y=>obtain ⟨_,e⟩:=x;exact ycs e
 | xd fs=>obtain ⟨_,⟨_,_,_,e,_⟩,_⟩:=x;exact ycs e
 | rng lo hi=>obtain ⟨_,_,_,e⟩:=x;exact ycs e
 | frz ob u=>obtain ⟨e,_⟩:=x;exact ycs e
 | tbl ps=>exact ycs (show h.get? a=some _ from x)
 | met f y=>exact ycs (show h.get? a=some _ from x)
 | ext φ=>obtain ⟨_,⟨_,e⟩,_⟩:=x;exact ycs e
theorem Paired.mapP {α β:Type} {F G:α->β->Prop}:∀{l₁:List α} {l₂:List β},Paired F l₁ l₂->(∀a b,F a b->G a b)->Paired G l₁ l₂
 | _,_,.nil,_ => .nil
 | _,_,.cons r t,f => .cons (f _ _ r) (Paired.mapP t f)
theorem qbs.stay (x:qbs P w H h a o) (k:∀b u,(b=a\/H b=some (.own a))->h.get? b=some u->h'.get? b=some u)
   (ho:∀b,H b=some (.own a)->H' b=some (.own a)) (ht:∀b xs,H b=some (.tup xs)->H' b=some (.tup xs)):qbs P w H' h' a o:=by
 induction o with
 | lst xs=>obtain ⟨z,its,n,r,e⟩:=x;exact ⟨z,its,n,r,k _ _ (.inl rfl) e⟩
 | tup xs=>obtain ⟨z,its,r,ob,e,c⟩:=x;exact ⟨z,its,r,ob,k _ _ (.inl rfl) e,c⟩
 | dK kvs=>obtain ⟨z,y,vs,r,ob,es,ep,e,c⟩:=x;exact ⟨z,y,vs,r,ob,es,ep,k _ _ (.inl rfl) e,c⟩
 | dT kvs =>
   obtain ⟨z,y,xs,r,ob,es,ep,e,c⟩:=x
   exact ⟨z,y,xs,Paired.mapP r fun p q z=>⟨z.1,ht _ _ z.2.1,z.2.2⟩,ob,es,ep,k _ _ (.inl rfl) e,c⟩
 | set S n=>obtain ⟨ob,es,ep,t,e,c⟩:=x;exact ⟨ob,es,ep,t,k _ _ (.inl rfl) e,c⟩
 | ins C dx fs =>
   obtain ⟨d,z,ne,e,mA,⟨od,es,ep,e2,c⟩,r⟩:=x
   exact ⟨ho _ d,z,ne,k _ _ (.inl rfl) e,mA,⟨od,es,ep,k _ _ (.inr d) e2,c⟩,r⟩
 | own y=>obtain ⟨ob,e⟩:=x;exact ⟨ob,k _ _ (.inl rfl) e⟩
 | xd fs=>obtain ⟨mA,⟨od,es,ep,e,c⟩,r⟩:=x;exact ⟨mA,⟨od,es,ep,k _ _ (.inl rfl) e,c⟩,r⟩
 | rng lo hi=>obtain ⟨t,u,v,e⟩:=x;exact ⟨t,u,v,k _ _ (.inl rfl) e⟩
 | frz ob u ih=>obtain ⟨e,q⟩:=x;exact ⟨k _ _ (.inl rfl) e,ih q⟩
 | tbl ps =>
   have e:h.get? a=some { cls := .none,data := .fields ps }:=x
   show h'.get? a=some { cls := .none,data := .fields ps }
   exact k a _ (.inl rfl) e
 | met f y =>
   have e:h.get? a=some (PySem.W.methodObj (.ref f) (.ref y)):=x
   show h'.get? a=some (PySem.W.methodObj (.ref f) (.ref y))
   exact k a _ (.inl rfl) e
 | ext φ=>obtain ⟨p,⟨o,e⟩,st⟩:=x;exact ⟨st _ _ p fun o q=>k _ _ (.inl rfl) q,⟨o,k _ _ (.inl rfl) e⟩,st⟩
theorem HOk.lt (x:HOk P w H h) (e:H a=some o):a<h.objs.size:=(x a o e).lt
theorem HOk.fresh (x:HOk P w H h) (e:h.objs.size<=a):H a=none:=by
 cases q:H a with
 | none=>rfl
 | some u=>exact absurd (yae (x.lt q) e) (ydn _)
theorem HOk.kept (x:HOk P w H h) (k:∀b u,h.get? b=some u->h'.get? b=some u):HOk P w H h':=fun a o e =>
 (x a o e).stay (fun b u _ q=>k b u q) (fun _ q=>q) fun _ _ q=>q
theorem HOk.laid (x:HOk P w H h) (k:∀b u,h.get? b=some u->h'.get? b=some u) (hp:h.objs.size<=a) (new:qbs P w (upd H a o) h' a o):HOk P w (upd H a o) h':=fun b u e=>by
 have hn:=x.fresh hp
 by_cases hb:b=a
 . subst hb;rw [qai] at e;cases e;exact new
 . rw [qaq hb] at e
   exact (x b u e).stay (fun c v _ q=>k c v q) (fun c q=>by rw [qaq (qay q hn)];exact q) fun c xs q=>by rw [qaq (qay q hn)];exact q
end
def Rd (H:Hp) (a:Addr) (u:HO):Prop:=H a=some u\/∃o,H a=some (.frz o u)
theorem Rd.ok {P:Program} {w:World} {H:Hp} {h:Heap} {a:Addr} {u:HO} (r:Rd H a u) (x:HOk P w H h):qbs P w H h a u:=by
 rcases r with r | ⟨o,r⟩
 . exact x a u r
 . obtain ⟨_,q⟩:=x a _ r
   exact q
def Mut:Option HO->Prop
 | some (.lst _)=>True
 | some (.dK _)=>True
 | some (.dT _)=>True
 | some (.set _ _)=>True
 | some (.ins _ _ _)=>True
 | some (.ext _)=>True
 | _=>False
section
variable {P:Program} {w:World} {H:Hp} {h h':Heap} {x e:Addr} {o':HO}
theorem HOk.write (ok:HOk P w H h) (mu:Mut (H x)) (he:e=x\/H e=some (.own x)) (k:∀b u,b≠e->h.get? b=some u->h'.get? b=some u) (heo:∃u,h'.get? e=some u)
   (new:qbs P w (upd H x o') h' x o'):HOk P w (upd H x o') h':=fun b u q=>by
 have nown:∀c y,H c=some (.own y)->c≠x:=fun c y r z=>by subst z;rw [r] at mu;exact mu
 have ntup:∀c xs,H c=some (.tup xs)->c≠x:=fun c xs r z=>by subst z;rw [r] at mu;exact mu
 by_cases hb:b=x
 . subst hb;rw [qai] at q;cases q;exact new
 . rw [qaq hb] at q
   by_cases hbe:b=e
   . have q':H b=some (.own x):=by
       rcases he with z | z
       . exact absurd (hbe.trans z) hb
       . rw [hbe];exact z
     rw [q] at q';cases q'
     obtain ⟨v,hv⟩:=heo
     exact ⟨v,by rw [hbe];exact hv⟩
   . refine (ok b u q).stay (fun c v hc r=>k c v ?_ r) (fun c r=>by rw [qaq (nown c b r)];exact r) fun c xs r=>by rw [qaq (ntup c xs r)];exact r
     rcases hc with rfl | hc
     . exact hbe
     . rintro rfl
       rcases he with z | z
       . exact nown c b hc z
       . rw [hc] at z;cases z;exact hb rfl
end
structure Un (fs ex:List Addr) (H H':Hp) (h h':Heap):Prop where
 keep:∀b o,h.get? b=some o->H b=none->b∉fs->b∉ex->h'.get? b=some o
 slot:∀b o,h.get? b=some o->H b=none->b∈fs->b∉ex->∃sl,h'.get? b=some { o with slots:=sl }
 free:∀b o,h.get? b=some o->H b=none->b∉ex->H' b=none
 there:∀b o,h.get? b=some o->b∉ex->∃o',h'.get? b=some o'
 tups:∀b xs,H b=some (.tup xs)->H' b=some (.tup xs)
 frzs:∀b o u,H b=some (.frz o u)->H' b=some (.frz o u)
 tbls:∀b ps,H b=some (.tbl ps)->∃qg9,H' b=some (.tbl (ps++qg9))
section
variable {fs fs' ex ex':List Addr} {H H1 H2:Hp} {h h1 h2 h':Heap} {a x e:Addr} {o:HO}
theorem Un.any (u:Un fs ex H H1 h h1) {b:Addr} {ob:Obj} (q:h.get? b=some ob) (n:H b=none) (hx:b∉ex):∃sl,h1.get? b=some { ob with slots:=sl }:=by
 by_cases hb:b∈fs
 . exact u.slot b ob q n hb hx
 . exact ⟨ob.slots,u.keep b ob q n hb hx⟩
theorem Un.kept (k:∀b u,h.get? b=some u->h'.get? b=some u):Un fs ex H H h h' :=
 ⟨fun b ob q _ _ _=>k b ob q,fun b ob q _ _ _=>⟨ob.slots,k b ob q⟩,fun _ _ _ n _=>n,fun b ob q _=>⟨ob,k b ob q⟩,fun _ _ q=>q,fun _ _ _ q=>q,fun _ ps q=>⟨#[],by rw [q];simp⟩⟩
theorem Un.refl:Un fs ex H H h h:=Un.kept fun _ _ q=>q
theorem Un.laid (k:∀b u,h.get? b=some u->h'.get? b=some u) (hp:h.objs.size<=a) (hn:H a=none):Un fs ex H (upd H a o) h h' where
 keep:=fun b u q _ _ _=>k b u q
 slot:=fun b u q _ _ _=>⟨u.slots,k b u q⟩
 free:=fun b u q n _=>by rw [qaq (ycu (yae (ycs q) hp))];exact n
 there:=fun b u q _=>⟨u,k b u q⟩
 tups:=fun b xs q=>by rw [qaq (qay q hn)];exact q
 frzs:=fun b u xs q=>by rw [qaq (qay q hn)];exact q
 tbls:=fun b ps q=>⟨#[],by rw [qaq (qay q hn),q];simp⟩
theorem Un.write (mu:Mut (H x)) (he:e=x\/H e=some (.own x)) (k:∀b u,b≠e->h.get? b=some u->h'.get? b=some u) (heo:∃u,h'.get? e=some u):Un fs ex H (upd H x o) h h':=by
 have hx:∀b,H b=none->b≠x:=fun b n z=>by subst z;rw [n] at mu;exact mu
 have hb:∀b,H b=none->b≠e:=fun b n z=>by
   subst z
   rcases he with r | r
   . exact hx b n r
   . rw [n] at r;cases r
 have hm:∀b u,H b=some u->¬Mut (some u)->b≠x:=fun b u q nm z=>by subst z;rw [q] at mu;exact nm mu
 refine ⟨fun b u q n _ _=>k b u (hb b n) q,fun b u q n _ _=>⟨u.slots,k b u (hb b n) q⟩,fun b u q n _=>by rw [qaq (hx b n)];exact n,fun b u q _=>?_,
   fun b xs q=>by rw [qaq (hm b _ q fun z=>z)];exact q,fun b u xs q=>by rw [qaq (hm b _ q fun z=>z)];exact q,fun b ps q=>⟨#[],by rw [qaq (hm b _ q fun z=>z),q];simp⟩⟩
 by_cases hbe:b=e
 . subst hbe;exact heo
 . exact ⟨u,k b u hbe q⟩
end
def trk (h:Heap) (H:Hp):List Addr:=(List.range h.objs.size).filter fun a=>(H a).isSome
def qnY (h:Heap) (H:Hp):Heap:=PySem.W.hideAll h (trk h H)
theorem qkj (h:Heap) (H:Hp):(qnY h H).objs.size=h.objs.size:=PySem.W.hideAll_size _ _
theorem qm8 {h:Heap} {H:Hp} {b:Addr} {o:Obj} (e:h.get? b=some o) (n:H b=none):(qnY h H).get? b=some o :=
 PySem.W.hideAll_get _ e fun hm=>by
   have q:(H b).isSome=true:=(yay.mp hm).2
   rw [n] at q;simp at q
theorem qqn {h:Heap} {H:Hp} {b:Addr} {o:Obj} (e:(qnY h H).get? b=some o):h.get? b=some o/\H b=none:=by
 have e':h.get? b=some o:=PySem.W.of_hideAll (trk h H) e
 refine ⟨e',?_⟩
 cases q:H b with
 | none=>rfl
 | some x =>
   have hm:b∈trk h H:=yay.mpr ⟨ybh.mpr (ycs e'),by simp [q]⟩
   have z:(qnY h H).get? b=none:=PySem.W.hideAll_none (trk h H) hm
   rw [z] at e;cases e
def qpE (g h:Heap) (L:Addr):List (Addr×Obj):=(List.range h.objs.size).filterMap fun a=>if a=L\/(g.get? a).isSome=true then none else (h.get? a).map fun o=>(a,o)
def qmF (g h:Heap) (L d:Addr):List (Addr×Obj):=(qpE g h L).filter fun p=>decide (p.1≠d)
end L2
namespace L2
open PySem PySem.Spec PyProof.Rows
structure Mod (K:PySem.W.Frag) (mg:Str->Option Value) (base:Heap):Prop where
 kin:K.In base
 glob:base.Ns mainGlobals mg
 blt:∃mb,base.Ns builtinsNs mb/\∀x:Str,x ≠ "__name__" -> mb x=bootBuiltins x
 nolimit:base.NoLimit
structure Cx where
 prog:Program
 w:World
 K:PySem.W.Frag
 mg:Str->Option Value
 base:Heap
 A:Around
 N:List Str
 s₀:Shared
 H₀:Hp
 env:Env
 outer:List Env
 stack:List Env
 ex:List Addr
 fn:Str->Bool
 calm:Bool
 pn:List (Addr×Obj)
 xe:Value->Shared->Prop
def frs (l:List Env):List Addr:=l.filterMap (·.frame)
abbrev Cx.fs (X:Cx):List Addr:=frs X.outer
def Vis (sc:Scope) (x:Str):Prop:=sc.names.lookup x=some .local\/sc.names.lookup x=some .cell\/sc.names.lookup x=some .free
def Loc (sc:Scope) (x:Str):Prop:=sc.names.lookup x=some .local\/sc.names.lookup x=some .cell
def qt8 (env:Env) (h:Heap) (m:Str->Option Value) (x:Str) (u:Value):Prop :=
 (env.kindOf x=some .local/\m x=some u)\/((env.kindOf x=some .cell\/env.kindOf x=some .free)/\∃c,env.cells.lookup x=some c/\h.IsCell c (some u))
structure Cx.Ok (X:Cx):Prop where
 mod:Mod X.K X.mg X.base
 kind:X.env.scope.kind = .function
 glob:X.env.globals=mainGlobals
 blt:X.env.builtins=builtinsNs
 above:X.s₀.heap.objs.size<=X.env.locals
 inj:∀x y c,X.env.cells.lookup x=some c->X.env.cells.lookup y=some c->x=y
 has:∀x,(X.env.kindOf x=some .cell\/X.env.kindOf x=some .free)->∃c,X.env.cells.lookup x=some c
 cab:∀x c,X.fn x=true->X.env.cells.lookup x=some c->X.s₀.heap.objs.size<=c
 hd:X.calm=true->X.A.handled=none
 frames:X.A.frames=some X.stack
 stk:X.stack=X.outer\/(X.stack=X.env::X.outer/\X.env.frame=some X.env.locals)
 exf:∀b∈X.ex,b≠X.env.locals/\∀x c,X.env.cells.lookup x=some c->c≠b
 bs:∀b o,X.base.get? b=some o->X.s₀.heap.get? b=some o/\X.H₀ b=none
 bsz:X.base.objs.size<=X.s₀.heap.objs.size
 noex:∀b o,X.base.get? b=some o->b∉X.ex
 exfs:∀b∈X.ex,b∉X.fs
 funs:X.s₀.heap.FunFrames X.base X.outer
 frf:∀b∈X.fs,X.H₀ b=none
structure Inv (X:Cx) (pins:List (Addr×Obj)) (σ:List (Option V)) (H:Hp) (s:Shared):Prop where
 ok:X.Ok
 os:s.os=X.s₀.os
 bare:AllBare s.gens
 base:Un X.fs X.ex X.H₀ H X.s₀.heap s.heap
 loc:∃m,s.heap.Ns X.env.locals m/\∀(i:Nat) (x:Str) (v:V),X.N[i]?=some x->σ[i]?=some (some v)->Vis X.env.scope x->∃u,qbo v u/\qt8 X.env s.heap m x u
 cell:∀x c,X.env.cells.lookup x=some c->∃v,s.heap.IsCell c v
 free:H X.env.locals=none
 freeC:∀x c,X.env.cells.lookup x=some c->H c=none
 pin:∀p∈X.pn++pins,s.heap.get? p.1=some p.2/\H p.1=none/\p.1≠X.env.locals/\p.1∉X.fs/\∀v,p.2.data ≠ .cell v
 hok:HOk X.prog X.w H s.heap
 len:σ.length=X.N.length
 tk:1<=s.toks
section
variable {X:Cx} {pins:List (Addr×Obj)} {σ:List (Option V)} {H H':Hp} {s:Shared} {h':Heap}
theorem Cx.Ok.nofr (ok:X.Ok) {b:Addr} {o:Obj} (e:X.base.get? b=some o):b∉X.fs:=fun hb=>by
 have:=(ok.funs.mem hb).1
 rw [e] at this;cases this
theorem Inv.bs (I:Inv X pins σ H s):∀b o,X.base.get? b=some o->s.heap.get? b=some o/\H b=none:=fun b o e =>
 ⟨I.base.keep b o (I.ok.bs b o e).1 (I.ok.bs b o e).2 (I.ok.nofr e) (I.ok.noex b o e),I.base.free b o (I.ok.bs b o e).1 (I.ok.bs b o e).2 (I.ok.noex b o e)⟩
theorem Inv.bk (I:Inv X pins σ H s):∀b o,X.base.get? b=some o->s.heap.get? b=some o:=fun b o e=>(I.bs b o e).1
theorem Inv.mod (I:Inv X pins σ H s):Mod X.K X.mg X.base:=I.ok.mod
theorem Inv.kIn (I:Inv X pins σ H s):X.K.In s.heap:=I.ok.mod.kin.keeps I.bk
theorem Inv.fr (I:Inv X pins σ H s):∃m,Fr X.base X.env.locals s.heap m :=
 let ⟨m,hn,_⟩:=I.loc
 ⟨m,hn,I.bk,ybt I.ok.bsz I.ok.above⟩
theorem Inv.lt (I:Inv X pins σ H s):X.env.locals<s.heap.objs.size:=let ⟨_,hn,_⟩:=I.loc;hn.lt
theorem Inv.sz (I:Inv X pins σ H s):X.s₀.heap.objs.size<=s.heap.objs.size:=ybt I.ok.above (ybs I.lt)
theorem Inv.nofs (I:Inv X pins σ H s) {a:Addr} (h:s.heap.objs.size<=a):a∉X.fs:=fun hb=>by
 obtain ⟨_,o,ho,_⟩:=I.ok.funs.mem hb
 exact absurd (yae (ycs ho) (ybt I.sz h)) (ydn _)
theorem Inv.cne (I:Inv X pins σ H s):∀x c,X.env.cells.lookup x=some c->c≠X.env.locals:=fun x c e z=>by
 obtain ⟨v,o,ho,hd⟩:=I.cell x c e
 obtain ⟨m,⟨o',es,ep,ho',hd',_⟩,_⟩:=I.loc
 rw [z,ho'] at ho;cases ho;rw [hd'] at hd;cases hd
theorem Inv.funs (I:Inv X pins σ H s):s.heap.FunFrames X.base X.outer:=by
 have all:∀(l:List Env),(∀b∈frs l,b∈X.fs)->X.s₀.heap.FunFrames X.base l->s.heap.FunFrames X.base l:=by
   intro l
   induction l with
   | nil=>intro _ _;trivial
   | cons env r ih =>
     intro hs hl
     obtain ⟨hk,⟨L,o,hf,hn,ho,hd⟩,hr⟩:=hl
     have hL:L∈X.fs:=hs L (by unfold frs;rw [ycg,hf];exact ybb)
     obtain ⟨sl,e⟩:=I.base.slot L o ho (I.ok.frf L hL) hL fun z=>I.ok.exfs L z hL
     exact ⟨hk,⟨L,_,hf,hn,e,hd⟩,ih (fun b hb=>hs b (by unfold frs;rw [ycg,hf];exact ybe _ hb)) hr⟩
 exact all X.outer (fun _ hb=>hb) I.ok.funs
theorem Inv.stack (I:Inv X pins σ H s):s.heap.FunFrames X.base X.stack:=by
 rcases I.ok.stk with e | ⟨e,hf⟩
 . rw [e];exact I.funs
 . rw [e]
   obtain ⟨m,hn,_⟩:=I.loc
   refine .cons (by rw [I.ok.kind];decide) hf hn ?_ I.funs
   exact Heap.get?_none_of_le (ybt I.ok.bsz I.ok.above)
theorem Inv.stkSub (I:Inv X pins σ H s):∀b∈frs X.stack,b∈X.env.locals::X.fs:=fun b hb=>by
 rcases I.ok.stk with e | ⟨e,hf⟩
 . rw [e] at hb;exact ybe _ hb
 . rw [e] at hb
   unfold frs at hb
   rw [ycg,hf] at hb
   exact hb
theorem Inv.stkFree (I:Inv X pins σ H s):∀b∈frs X.stack,H b=none:=fun b hb=>by
 rcases ybd.mp (I.stkSub b hb) with e | hb
 . rw [e];exact I.free
 . obtain ⟨_,o,ho,_⟩:=I.ok.funs.mem hb
   exact I.base.free b o ho (I.ok.frf b hb) fun z=>I.ok.exfs b z hb
theorem Inv.step {g':Array GenState} {t':Nat} {d':Drawn} {ch:List Addr} (I:Inv X pins σ H s)
   (hch:∀b∈ch,(b∈X.ex\/X.s₀.heap.objs.size<=b)/\b≠X.env.locals/\(∀x c,X.env.cells.lookup x=some c->c≠b)/\∀p∈X.pn++pins,p.1≠b)
   (keep:∀b o,b≠X.env.locals->b∉X.fs->b∉ch->s.heap.get? b=some o->H b=none->h'.get? b=some o)
   (slot:∀b o,b≠X.env.locals->b∈X.fs->b∉ch->s.heap.get? b=some o->H b=none->∃sl,h'.get? b=some { o with slots:=sl }) (free:∀b o,b∉ch->s.heap.get? b=some o->H b=none->H' b=none)
   (there:∀b o,b∉ch->s.heap.get? b=some o->∃o',h'.get? b=some o')
   (tups:∀b xs,H b=some (.tup xs)->H' b=some (.tup xs)) (frzs:∀b o u,H b=some (.frz o u)->H' b=some (.frz o u)) (tbls:∀b ps,H b=some (.tbl ps)->∃qg9,H' b=some (.tbl (ps++qg9)))
   (ns:∀m,s.heap.Ns X.env.locals m->h'.Ns X.env.locals m) (hok:HOk X.prog X.w H' h') (hg:AllBare g') (ht:1<=t':=by first | exact ydo 1 _ | assumption | exact Inv.tk (by assumption) | omega) :
   Inv X pins σ H' { s with heap:=h',gens:=g',drawn:=d',toks:=t' }:=by
 have neL:∀b o,X.s₀.heap.get? b=some o->b≠X.env.locals:=fun b o e=>ycu (yae (ycs e) I.ok.above)
 have neC:∀b o,X.s₀.heap.get? b=some o->b∉X.ex->b∉ch:=fun b o e hx hb=>by
   rcases (hch b hb).1 with z | z
   . exact hx z
   . exact absurd (yae (ycs e) z) (ydn _)
 have cellK:∀x c,X.env.cells.lookup x=some c->∀v,s.heap.IsCell c v->h'.IsCell c v:=fun x c e v ⟨o,ho,hd⟩=>by
   have nch:c∉ch:=fun z=>(hch c z).2.2.1 x c e rfl
   by_cases hc:c∈X.fs
   . obtain ⟨sl,q⟩:=slot c o (I.cne x c e) hc nch ho (I.freeC x c e)
     exact ⟨_,q,hd⟩
   . exact ⟨o,keep c o (I.cne x c e) hc nch ho (I.freeC x c e),hd⟩
 refine ⟨I.ok,I.os,hg,⟨fun b o e n hb hx=>?_,fun b o e n hb hx=>?_,fun b o e n hx=>?_,fun b o e hx=>?_,fun b xs e=>tups b xs (I.base.tups b xs e),fun b o xs e=>frzs b o xs (I.base.frzs b o xs e),fun b ps e=>?_⟩,?_,fun x c e=>?_,?_,fun x c e=>?_,fun p hp=>?_,hok,I.len,ht⟩
 . exact keep b o (neL b o e) hb (neC b o e hx) (I.base.keep b o e n hb hx) (I.base.free b o e n hx)
 . obtain ⟨sl,e1⟩:=I.base.slot b o e n hb hx
   obtain ⟨sl',e2⟩:=slot b _ (neL b o e) hb (neC b o e hx) e1 (I.base.free b o e n hx)
   exact ⟨sl',e2⟩
 . obtain ⟨o',e1⟩:=I.base.there b o e hx
   exact free b o' (neC b o e hx) e1 (I.base.free b o e n hx)
 . obtain ⟨o',e1⟩:=I.base.there b o e hx
   exact there b o' (neC b o e hx) e1
 . obtain ⟨m1,e1⟩:=I.base.tbls b ps e
   obtain ⟨m2,e2⟩:=tbls b _ e1
   exact ⟨m1++m2,by rw [e2,ydp]⟩
 . obtain ⟨m,hn,hl⟩:=I.loc
   refine ⟨m,ns m hn,fun i x v e1 e2 e3=>?_⟩
   obtain ⟨u,r,l⟩:=hl i x v e1 e2 e3
   refine ⟨u,r,?_⟩
   rcases l with l | ⟨k,c,e,z⟩
   . exact .inl l
   . exact .inr ⟨k,c,e,cellK x c e _ z⟩
 . obtain ⟨v,z⟩:=I.cell x c e
   exact ⟨v,cellK x c e v z⟩
 . obtain ⟨m,⟨o,_,_,ho,_⟩,_⟩:=I.loc
   exact free _ o (fun z=>(hch _ z).2.1 rfl) ho I.free
 . obtain ⟨v,o,ho,hd⟩:=I.cell x c e
   exact free c o (fun z=>(hch c z).2.2.1 x c e rfl) ho (I.freeC x c e)
 . obtain ⟨e,n,ne,nf,d⟩:=I.pin p hp
   have nch:p.1∉ch:=fun z=>(hch p.1 z).2.2.2 p hp rfl
   exact ⟨keep p.1 p.2 ne nf nch e n,free p.1 p.2 nch e n,ne,nf,d⟩
theorem Inv.un {t':Nat} (I:Inv X pins σ H s) (u:Un X.fs [] H H' s.heap h') (hok:HOk X.prog X.w H' h') (ht:1<=t':=by first | exact ydo 1 _ | assumption | exact Inv.tk (by assumption) | omega):Inv X pins σ H' { s with heap:=h',toks:=t' }:=by
 obtain ⟨m,⟨o,es,ep,ho,r⟩,_⟩:=id I.loc
 obtain ⟨sl,hL⟩:=u.any ho I.free (by simp)
 exact I.step (g':=s.gens) (d':=s.drawn) (ch:=[]) (fun _ z=>nomatch z) (fun b o _ hb _ e n=>u.keep b o e n hb (by simp)) (fun b o _ hb _ e n=>u.slot b o e n hb (by simp)) (fun b o _ e n=>u.free b o e n (by simp)) (fun b o _ e=>u.there b o e (by simp)) u.tups u.frzs u.tbls (fun m' hm=>by
   obtain ⟨o',es',ep',ho',r'⟩:=hm
   rw [ho] at ho';cases ho'
   exact ⟨_,es',ep',hL,r'⟩) hok I.bare
theorem Inv.call {g':Array GenState} {t':Nat} {d':Drawn} {ch:List Addr} (I:Inv X pins σ H s) (u:Un (frs X.stack) ch H H' s.heap h') (hok:HOk X.prog X.w H' h') (hg:AllBare g')
   (hch:∀b∈ch,(b∈X.ex\/X.s₀.heap.objs.size<=b)/\b≠X.env.locals/\(∀x c,X.env.cells.lookup x=some c->c≠b)/\∀p∈X.pn++pins,p.1≠b) (ht:1<=t':=by first | exact ydo 1 _ | assumption | exact Inv.tk (by assumption) | omega) :
   Inv X pins σ H' { s with heap:=h',gens:=g',drawn:=d',toks:=t' }:=by
 obtain ⟨m,⟨o,es,ep,ho,r⟩,_⟩:=id I.loc
 obtain ⟨sl,hL⟩:=u.any ho I.free fun z=>(hch _ z).2.1 rfl
 exact I.step (ch:=ch) hch (fun b o hL hb hc e n=>u.keep b o e n (fun z=>(ybd.mp (I.stkSub b z)).elim hL hb) hc) (fun b o _ _ hc e n=>u.any e n hc) (fun b o hc e n=>u.free b o e n hc) (fun b o hc e=>u.there b o e hc) u.tups u.frzs u.tbls (fun m' hm=>by
   obtain ⟨o',es',ep',ho',r'⟩:=hm
   rw [ho] at ho';cases ho'
   exact ⟨_,es',ep',hL,r'⟩) hok hg
theorem Inv.turned {t':Nat} {it:Addr} (I:Inv X pins σ H s) (k:∀b o,b≠it->s.heap.get? b=some o->h'.get? b=some o) (hn:H it=none) (hL:it≠X.env.locals)
   (h1:it∈X.ex\/X.s₀.heap.objs.size<=it) (h2:∀x c,X.env.cells.lookup x=some c->c≠it) (h3:∀p∈X.pn++pins,p.1≠it) (ht:1<=t':=by first | exact ydo 1 _ | assumption | exact Inv.tk (by assumption) | omega):Inv X pins σ H { s with heap:=h',toks:=t' }:=by
 have nit:∀b u,H b=some u->b≠it:=fun b u e z=>by rw [z,hn] at e;cases e
 refine I.step (g':=s.gens) (d':=s.drawn) (ch:=[it]) (fun b hb=>?_) (fun b o _ _ hc e _=>k b o (fun z=>hc (by simp [z])) e) (fun b o _ _ hc e _=>⟨o.slots,k b o (fun z=>hc (by simp [z])) e⟩) (fun _ _ _ _ n=>n)
   (fun b o hc e=>⟨o,k b o (fun z=>hc (by simp [z])) e⟩) (fun _ _ e=>e) (fun _ _ _ e=>e) (fun b ps e=>⟨#[],by rw [e];simp⟩) (fun m hm=>?_) (fun b u e=>?_) I.bare
 . have e:b=it:=by simpa using hb
   subst e
   exact ⟨h1,hL,h2,h3⟩
 . obtain ⟨o,es,ep,ho,r⟩:=hm
   exact ⟨o,es,ep,k _ o (Ne.symm hL) ho,r⟩
 . refine (I.hok b u e).stay (fun c v hc q=>k c v ?_ q) (fun _ q=>q) fun _ _ q=>q
   rcases hc with z | z
   . rw [z];exact nit b u e
   . exact nit c _ z
theorem Inv.ts (I:Inv X pins σ H s) (x:Str):qbo (.str x) (.str x s.toks):=⟨s.toks-1,congrArg (Value.str x) (ydq I.tk).symm⟩
theorem Inv.tok (I:Inv X pins σ H s) (t:Nat) (ht:1<=t:=by first | exact ydo 1 _ | assumption | exact Inv.tk (by assumption) | omega):Inv X pins σ H { s with toks:=t }:=I.un (h':=s.heap) (t':=t) Un.refl I.hok
theorem Inv.kept {t':Nat} (I:Inv X pins σ H s) (k:∀b u,s.heap.get? b=some u->h'.get? b=some u) (ht:1<=t':=by first | exact ydo 1 _ | assumption | exact Inv.tk (by assumption) | omega):Inv X pins σ H { s with heap:=h',toks:=t' }:=I.un (Un.kept k) (I.hok.kept k)
theorem Inv.laid {a:Addr} {o:HO} {t':Nat} (I:Inv X pins σ H s) (k:∀b u,s.heap.get? b=some u->h'.get? b=some u) (hp:s.heap.objs.size<=a) (new:qbs X.prog X.w (upd H a o) h' a o) (ht:1<=t':=by first | exact ydo 1 _ | assumption | exact Inv.tk (by assumption) | omega) :
 Inv X pins σ (upd H a o) { s with heap:=h',toks:=t' }:=I.un (Un.laid k hp (I.hok.fresh hp)) (I.hok.laid k hp new)
theorem Inv.write {x e:Addr} {o:HO} {t':Nat} (I:Inv X pins σ H s) (mu:Mut (H x)) (he:e=x\/H e=some (.own x)) (k:∀b u,b≠e->s.heap.get? b=some u->h'.get? b=some u) (heo:∃u,h'.get? e=some u)
 (new:qbs X.prog X.w (upd H x o) h' x o) (ht:1<=t':=by first | exact ydo 1 _ | assumption | exact Inv.tk (by assumption) | omega):Inv X pins σ (upd H x o) { s with heap:=h',toks:=t' }:=I.un (Un.write mu he k heo) (I.hok.write mu he k heo new)
theorem Inv.weak {σ':List (Option V)} (I:Inv X pins σ H s) (hl:σ'.length=σ.length) (w:∀(i:Nat) v,σ'[i]?=some (some v)->σ[i]?=some (some v)):Inv X pins σ' H s :=
 ⟨I.ok,I.os,I.bare,I.base,let ⟨m,hn,hl'⟩:=I.loc;⟨m,hn,fun i x v e1 e2 e3=>hl' i x v e1 (w i v e2) e3⟩,I.cell,I.free,I.freeC,I.pin,I.hok,hl.trans I.len,I.tk⟩
theorem Inv.pins_of {pins':List (Addr×Obj)} (I:Inv X pins σ H s) (h:∀p∈pins',s.heap.get? p.1=some p.2/\H p.1=none/\p.1≠X.env.locals/\p.1∉X.fs/\∀v,p.2.data ≠ .cell v):Inv X pins' σ H s :=
 ⟨I.ok,I.os,I.bare,I.base,I.loc,I.cell,I.free,I.freeC,fun p hp=>(yat.mp hp).elim (fun z=>I.pin p (yas _ z)) (h p),I.hok,I.len,I.tk⟩
theorem qgF {N:List Str} (hN:N.Nodup) {i j:Nat} {x:Str} (a:N[i]?=some x) (b:N[j]?=some x):i=j:=by
 obtain ⟨h1,e1⟩:=ybr.mp a
 obtain ⟨h2,e2⟩:=ybr.mp b
 exact (ydr hN).mp (e1.trans e2.symm)
theorem qk5 {M:Model} {A:Around} {E:Value->Shared->Prop} {i:Nat} {x:Str} {v:V} {u:Value} {Q:Unit->Shared->Prop} (I:Inv X pins σ H s) (hN:X.N.Nodup) (hi:X.N[i]?=some x) (hx:Loc X.env.scope x) (r:qbo v u)
   (h:∀s',Inv X pins (σ.set i (some v)) H s'->(∃a,Heap.SameBut a s.heap s'.heap/\(a=X.env.locals\/X.env.cells.lookup x=some a))->Q () s') (hf:X.fn x=true\/X.env.scope.names.lookup x=some .local:=by first | exact .inl rfl | exact .inr rfl | assumption):wpAny M A (storeName X.env x u) Q E s:=by
 obtain ⟨m,hn,hl⟩:=id I.loc
 have hcls:(X.env.scope.kind == .class||(X.env.scope.kind == .module&&X.env.locals != X.env.globals))=false:=by rw [I.ok.kind];rfl
 have hiσ:i<σ.length:=by rw [I.len];exact (ybr.mp hi).1
 have cne:=I.cne
 have tracked:∀{a:Addr} {h':Heap},(∃o,s.heap.get? a=some o/\H a=none)->Heap.SameBut a s.heap h'->HOk X.prog X.w H h':=fun {a h'} ha hs b ob e=>by
   obtain ⟨_,_,hfree⟩:=ha
   refine (I.hok b ob e).stay (fun c w' hc q=>(hs.2 c ?_).trans q) (fun _ q=>q) fun _ _ q=>q
   rintro rfl
   rcases hc with rfl | hc
   . rw [hfree] at e;cases e
   . rw [hfree] at hc;cases hc
 rcases hx with hk | hk
 . refine wpAny_storeName_local hk hn (fun h' hn' hs=>?_) hcls
   obtain ⟨oL,_,_,hoL,_⟩:=id hn
   refine h _ ⟨I.ok,I.os,I.bare,⟨fun b o e n hb hx=>?_,fun b o e n hb hx=>?_,I.base.free,fun b o e hx=>?_,I.base.tups,I.base.frzs,I.base.tbls⟩,⟨_,hn',fun j y v' e1 e2 e3=>?_⟩,fun y c e=>?_,I.free,I.freeC,fun p hp=>?_,tracked ⟨oL,hoL,I.free⟩ hs,by simpa using I.len,by first | exact I.tk | exact ydo 1 _⟩ ⟨_,hs,.inl rfl⟩
   . exact (hs.2 b (ycu (yae (ycs e) I.ok.above))).trans (I.base.keep b o e n hb hx)
   . obtain ⟨sl,e1⟩:=I.base.slot b o e n hb hx
     exact ⟨sl,(hs.2 b (ycu (yae (ycs e) I.ok.above))).trans e1⟩
   . obtain ⟨o',e1⟩:=I.base.there b o e hx
     exact ⟨o',(hs.2 b (ycu (yae (ycs e) I.ok.above))).trans e1⟩
   . by_cases hj:j=i
     . subst hj
       rw [hi] at e1;cases e1
       rw [yds hiσ] at e2
       cases e2
       exact ⟨u,r,.inl ⟨hk,by simp⟩⟩
     . rw [ydt (Ne.symm hj)] at e2
       obtain ⟨u',r',q⟩:=hl j y v' e1 e2 e3
       refine ⟨u',r',?_⟩
       rcases q with ⟨k,e⟩ | ⟨k,c,e,z⟩
       . refine .inl ⟨k,?_⟩
         have:y≠x:=fun e=>hj (qgF hN e1 (e▸hi))
         simp [this,e]
       . exact .inr ⟨k,c,e,z.sameBut hs (cne y c e)⟩
   . obtain ⟨w',z⟩:=I.cell y c e
     exact ⟨w',z.sameBut hs (cne y c e)⟩
   . obtain ⟨e,n,ne,nf,d⟩:=I.pin p hp
     exact ⟨(hs.2 p.1 ne).trans e,n,ne,nf,d⟩
 . have hfn:X.fn x=true:=by
     rcases hf with z | z
     . exact z
     . rw [z] at hk;cases hk
   obtain ⟨c,hc⟩:=I.ok.has x (.inl hk)
   obtain ⟨w',z⟩:=I.cell x c hc
   refine wpAny_storeName_cell I.ok.kind hk hc z (fun h' hc' hs=>?_)
   obtain ⟨oc,hoc,hocd⟩:=id z
   refine h { s with heap:=h' } ⟨I.ok,I.os,I.bare,⟨fun b o e n hb hx=>?_,fun b o e n hb hx=>?_,I.base.free,fun b o e hx=>?_,I.base.tups,I.base.frzs,I.base.tbls⟩,⟨m,hn.sameBut hs (Ne.symm (cne x c hc)),fun j y v' e1 e2 e3=>?_⟩,fun y c' e=>?_,I.free,I.freeC,fun p hp=>?_,tracked ⟨oc,hoc,I.freeC x c hc⟩ hs,by simpa using I.len,by first | exact I.tk | exact ydo 1 _⟩ ⟨c,hs,.inr hc⟩
   . exact (hs.2 b (ycu (yae (ycs e) (I.ok.cab x c hfn hc)))).trans (I.base.keep b o e n hb hx)
   . obtain ⟨sl,e1⟩:=I.base.slot b o e n hb hx
     exact ⟨sl,(hs.2 b (ycu (yae (ycs e) (I.ok.cab x c hfn hc)))).trans e1⟩
   . obtain ⟨o',e1⟩:=I.base.there b o e hx
     exact ⟨o',(hs.2 b (ycu (yae (ycs e) (I.ok.cab x c hfn hc)))).trans e1⟩
   . by_cases hj:j=i
     . subst hj
       rw [hi] at e1;cases e1
       rw [yds hiσ] at e2
       cases e2
       exact ⟨u,r,.inr ⟨.inl hk,c,hc,hc'⟩⟩
     . rw [ydt (Ne.symm hj)] at e2
       obtain ⟨u',r',q⟩:=hl j y v' e1 e2 e3
       refine ⟨u',r',?_⟩
       rcases q with q | ⟨k,c',e,z'⟩
       . exact .inl q
       . refine .inr ⟨k,c',e,z'.sameBut hs ?_⟩
         rintro rfl
         exact hj (qgF hN e1 (I.ok.inj _ _ _ e hc▸hi))
   . by_cases hcc:c'=c
     . subst hcc;exact ⟨_,hc'⟩
     . obtain ⟨w2,z2⟩:=I.cell y c' e
       exact ⟨w2,z2.sameBut hs hcc⟩
   . obtain ⟨e,n,ne,nf,d⟩:=I.pin p hp
     refine ⟨(hs.2 p.1 ?_).trans e,n,ne,nf,d⟩
     intro q
     rw [q,hoc] at e
     have q':oc=p.2:=Option.some.inj e
     exact d w' (by rw [<-q'];exact hocd)
theorem qde {M:Model} {A:Around} {E:Value->Shared->Prop} {i:Nat} {x:Str} {v:V} {u:Value} {Q:Unit->Shared->Prop} (I:Inv X pins σ H s) (hN:X.N.Nodup) (hi:X.N[i]?=some x) (hx:Loc X.env.scope x) (r:qbo v u)
   (h:∀s',Inv X pins (σ.set i (some v)) H s'->Q () s') (hf:X.fn x=true\/X.env.scope.names.lookup x=some .local:=by first | exact .inl rfl | exact .inr rfl | assumption):wpAny M A (storeName X.env x u) Q E s :=
 qk5 I hN hi hx r (fun s' I' _=>h s' I') hf
theorem Inv.call' {s':Shared} {ch:List Addr} (I:Inv X pins σ H s) (ho:s'.os=s.os) (u:Un (frs X.stack) ch H H' s.heap s'.heap) (hok:HOk X.prog X.w H' s'.heap) (hg:AllBare s'.gens)
   (hch:∀b∈ch,(b∈X.ex\/X.s₀.heap.objs.size<=b)/\b≠X.env.locals/\(∀x c,X.env.cells.lookup x=some c->c≠b)/\∀p∈X.pn++pins,p.1≠b) (ht:1<=s'.toks:=by first | exact ydo 1 _ | assumption | exact Inv.tk (by assumption) | omega):Inv X pins σ H' s':=by
 obtain ⟨h',g',d',t',o'⟩:=s'
 have e:o'=s.os:=ho
 subst e
 exact I.call (g':=g') (t':=t') (d':=d') u hok hg hch ht
end
abbrev XK:=Value->Option Addr->Hp->Prop
abbrev St:=List (Option V)
abbrev VK:=V->Hp->Prop
abbrev TE:=St->Hp->VK->Prop
abbrev TT:=St->Hp->(Bool->Hp->Prop)->Prop
abbrev TA:=St->Hp->(List V->Hp->Prop)->Prop
structure qeY where
 nx:St->Hp->Prop
 rt:VK
 bk:St->Hp->Prop:=fun _ _=>False
 ct:St->Hp->Prop:=fun _ _=>False
abbrev TS:=qeY->St->Hp->Prop
def EP (X:Cx) (pins:List (Addr×Obj)) (σ:St) (Q:VK) (u:Value) (s':Shared):Prop:=∃v H',Inv X pins σ H' s'/\qbo v u/\Q v H'
def TP (X:Cx) (pins:List (Addr×Obj)) (σ:St) (Q:Bool->Hp->Prop) (b:Bool) (s':Shared):Prop:=∃H',Inv X pins σ H' s'/\Q b H'
def AP (X:Cx) (pins:List (Addr×Obj)) (σ:St) (Q:List V->Hp->Prop) (us:List Value) (s':Shared):Prop:=∃vs H',Inv X pins σ H' s'/\qa6 vs us/\Q vs H'
def SP (X:Cx) (pins:List (Addr×Obj)) (D:qeY) (f:Flow) (s':Shared):Prop :=
 match f with
 | .next=>∃σ' H',Inv X pins σ' H' s'/\D.nx σ' H'
 | .brk=>∃σ' H',Inv X pins σ' H' s'/\D.bk σ' H'
 | .cont=>∃σ' H',Inv X pins σ' H' s'/\D.ct σ' H'
 | .ret u=>∃v σ' H',Inv X pins σ' H' s'/\qbo v u/\D.rt v H'
def PE (X:Cx) (e:Expr) (t:TE):Prop :=
 ∀(pins:List (Addr×Obj)) (s:Shared) (σ:St) (H:Hp) (Q:VK),Inv X pins σ H s->t σ H Q->wpAny (model X.prog X.w) X.A (eval e X.env) (EP X pins σ Q) X.xe s
def PT (X:Cx) (e:Expr) (t:TT):Prop :=
 ∀(pins:List (Addr×Obj)) (s:Shared) (σ:St) (H:Hp) (Q:Bool->Hp->Prop),Inv X pins σ H s->t σ H Q->wpAny (model X.prog X.w) X.A (isTrue e X.env (eval e X.env)) (TP X pins σ Q) X.xe s
def PW (X:Cx) (e:Expr) (t:TT):Prop :=
 ∀(whole:Sem Value) (pins:List (Addr×Obj)) (s:Shared) (σ:St) (H:Hp) (Q:Bool->Hp->Prop),Inv X pins σ H s->t σ H Q->wpAny (model X.prog X.w) X.A (isTrue e X.env whole) (TP X pins σ Q) X.xe s
theorem PW.pt {X:Cx} {e:Expr} {t:TT} (h:PW X e t):PT X e t:=h _
def PA (X:Cx) (es:List Expr) (t:TA):Prop :=
 ∀(pos:Pos) (pins:List (Addr×Obj)) (s:Shared) (σ:St) (H:Hp) (Q:List V->Hp->Prop),Inv X pins σ H s->t σ H Q->wpAny (model X.prog X.w) X.A (spliced (backTo pos (starEach es X.env))) (AP X pins σ Q) X.xe s
def PS (X:Cx) (st:Stmt) (t:TS):Prop :=
 ∀(pins:List (Addr×Obj)) (s:Shared) (σ:St) (H:Hp) (D:qeY),Inv X pins σ H s->t D σ H->wpAny (model X.prog X.w) X.A (exec st X.env) (SP X pins D) X.xe s
def PSs (X:Cx) (st:List Stmt) (t:TS):Prop :=
 ∀(pins:List (Addr×Obj)) (s:Shared) (σ:St) (H:Hp) (D:qeY),Inv X pins σ H s->t D σ H->wpAny (model X.prog X.w) X.A (execs st X.env) (SP X pins D) X.xe s
theorem thn {α:Type} {t:Sem α} {Q Q':α->Shared->Prop} {M:Model} {A:Around} {E:Value->Shared->Prop} {s:Shared} (h:wpAny M A t Q E s) (hQ:∀a s,Q a s->Q' a s):wpAny M A t Q' E s:=wpAny_mono h hQ fun _ _ x=>x
end L2
namespace L2
open PySem PySem.Spec PyProof.Rows
section
variable {X:Cx}
theorem bin {a b:Expr} {ta tb:TE} (ha:PE X a ta) (hb:PE X b tb) {pins:List (Addr×Obj)} {s:Shared} {σ:St} {H:Hp} {R:V->V->Hp->Prop} (I:Inv X pins σ H s) (h:ta σ H fun x H1=>tb σ H1 fun y H2=>R x y H2)
   {α:Type} {Q:α->Shared->Prop} {f:Value->Value->Sem α}
   (hf:∀v u s2 x y H2,Inv X pins σ H2 s2->qbo x v->qbo y u->R x y H2->wpAny (model X.prog X.w) X.A (f v u) Q X.xe s2) :
   wpAny (model X.prog X.w) X.A (eval a X.env) (fun v s₁=>wpAny (model X.prog X.w) X.A (eval b X.env) (fun u s₂=>wpAny (model X.prog X.w) X.A (f v u) Q X.xe s₂) X.xe s₁) X.xe s:=by
 refine thn (ha pins s σ H _ I h) fun v s1 ⟨x,H1,I1,r1,q1⟩=>?_
 refine thn (hb pins s1 σ H1 _ I1 q1) fun u s2 ⟨y,H2,I2,r2,q2⟩=>?_
 exact hf v u s2 x y H2 I2 r1 r2 q2
def qtx (i:Nat):TE:=fun σ H Q=>∃v,σ[i]?=some (some v)/\Q v H
def tC (v:V):TE:=fun _ H Q=>Q v H
theorem qrP {i:Nat} {x:Str} {pos:Pos} (hN:X.N[i]?=some x) (hv:Vis X.env.scope x) (hd:(x==("__debug__" : Str))=false:=by decide) (hcd:(x==("__classdict__" : Str))=false:=by decide):PE X (.Name x pos) (qtx i):=by
 intro pins s σ H Q I h
 obtain ⟨v,e,h⟩:=h
 obtain ⟨m,hn,hl⟩:=I.loc
 obtain ⟨u,r,l⟩:=hl i x v hN e hv
 have fin:EP X pins σ Q u s:=⟨v,H,I,r,h⟩
 rcases l with ⟨hk,hm⟩ | ⟨hk,c,hc,hcell⟩
 . exact wpAny_Name (wpAny_loadName_local I.ok.kind hk hn hm fin) hd
 . rcases hk with hk | hk
   . exact wpAny_Name (wpAny_loadName_cell I.ok.kind hk hc hcell fin) hd
   . exact wpAny_Name (wpAny_loadName_free I.ok.kind hk hc hcell fin hcd) hd
theorem qah {i j pos}:PE X (.Constant (.int i) j pos) (tC (.int i)):=fun _ _ _ H _ I h=>wpAny_Constant_int ⟨.int i,H,I.tok _,⟨_,rfl⟩,h⟩
theorem qfX {b j pos}:PE X (.Constant (.bool b) j pos) (tC (.bl b)):=fun _ _ _ H _ I h=>Constant_bool ⟨.bl b,H,I,rfl,h⟩
theorem qi4 {j pos}:PE X (.Constant .none j pos) (tC .non):=fun _ _ _ H _ I h=>Constant_none ⟨.non,H,I,rfl,h⟩
theorem qaf {x j pos}:PE X (.Constant (.str x) j pos) (tC (.str x)):=fun _ _ _ H _ I h=>Calls.Constant_str ⟨.str x,H,I.tok _,⟨_,congrArg (Value.str x) (ydq I.tk).symm⟩,h⟩
def Gl (X:Cx) (x:Str):Prop:=X.env.kindOf x=some .globalImplicit
theorem qdm {E:Value->Shared->Prop} {pins:List (Addr×Obj)} {s:Shared} {σ:St} {H:Hp} {x:Str} {u:Value} {pos:Pos} {Q:Value->Shared->Prop} (I:Inv X pins σ H s) (hg:Gl X x) (hm:X.mg x=some u) (h:Q u s)
   (hd:(x==("__debug__" : Str))=false:=by decide):wpAny (model X.prog X.w) X.A (eval (.Name x pos) X.env) Q E s :=
 Calls.Name_function_global I.ok.kind hg (Calls.loadGlobal_global (by rw [I.ok.glob];exact I.mod.glob.keeps I.bk) hm h) hd
theorem qhq {E:Value->Shared->Prop} {pins:List (Addr×Obj)} {s:Shared} {σ:St} {H:Hp} {x:Str} {u:Value} {pos:Pos} {Q:Value->Shared->Prop} (I:Inv X pins σ H s) (hg:Gl X x) (hm:X.mg x=none) (hv:bootBuiltins x=some u) (h:Q u s)
   (hn:x ≠ "__name__" := by decide) (hd:(x==("__debug__" : Str))=false:=by decide):wpAny (model X.prog X.w) X.A (eval (.Name x pos) X.env) Q E s:=by
 obtain ⟨mb,h1,h2⟩:=I.mod.blt
 exact Calls.Name_function_global I.ok.kind hg (Calls.loadGlobal_builtin (by rw [I.ok.glob];exact I.mod.glob.keeps I.bk) hm (by rw [I.ok.blt];exact h1.keeps I.bk) ((h2 x hn).trans hv) h) hd
theorem qcj {x:Str} {v:V} {u:Value} {pos:Pos} (hg:Gl X x) (hm:X.mg x=some u) (r:qbo v u) (hd:(x==("__debug__" : Str))=false:=by decide):PE X (.Name x pos) (tC v) :=
 fun _ _ _ H _ I h=>qdm I hg hm ⟨v,H,I,r,h⟩ hd
theorem qd3 {x:Str} {v:V} {u:Value} {pos:Pos} (hg:Gl X x) (hm:X.mg x=none) (hv:bootBuiltins x=some u) (r:qbo v u) (hn:x ≠ "__name__" := by decide) (hd:(x==("__debug__" : Str))=false:=by decide):PE X (.Name x pos) (tC v) :=
 fun _ _ _ H _ I h=>qhq I hg hm hv ⟨v,H,I,r,h⟩ hn hd
variable {a b:Expr} {ta tb:TE} {pos:Pos}
def PC (X:Cx) (op:CmpOp) (a b:Expr) (t:TE):Prop :=
 ∀(pins:List (Addr×Obj)) (s:Shared) (σ:St) (H:Hp) (Q:VK),Inv X pins σ H s->t σ H Q ->
   wpAny (model X.prog X.w) X.A (eval a X.env) (fun v s₁=>wpAny (model X.prog X.w) X.A (eval b X.env) (fun u s₂=>wpAny (model X.prog X.w) X.A (compareOp op v u) (EP X pins σ Q) X.xe s₂) X.xe s₁) X.xe s
theorem qna (b:Expr) {op:CmpOp} (h:op ≠ .In) (h2:op ≠ .NotIn):behindInMarks op b=false:=by
 have e1:(op==CmpOp.In)=false:=by cases op<;>first | rfl | exact absurd rfl h
 have e2:(op==CmpOp.NotIn)=false:=by cases op<;>first | rfl | exact absurd rfl h2
 cases b<;>simp [behindInMarks,e1,e2]
def tB (t:TE):TT:=fun σ H Q=>t σ H fun x H1=>∃c,x = .bl c/\Q c H1
theorem qmg {op:CmpOp} {t:TE} (h:PC X op a b t) (h1:behindInMarks op b=false:=by first | exact qna _ (by decide) (by decide) | rfl):PT X (.Compare a [op] [b] pos) (tB t):=by
 intro pins s σ H Q I hw
 refine wpAny_isTrue_Compare1 (thn (h pins s σ H _ I hw) fun v s1 h1=>thn h1 fun u s2 h2=>thn h2 fun c s3 ⟨x,H1,I1,r1,q1⟩=>?_) h1
 obtain ⟨d,rfl,q⟩:=q1
 cases r1
 exact wpAny_truthy_bool ⟨H1,I1,q⟩
theorem qcg {e:Expr} {t:TE} (h:PE X e t) (he:∀whole,isTrue e X.env whole=(do let v <-whole;standAt e.pos;holding [v] (truthy v)):=by intro _;rfl):PT X e (tB t):=by
 intro pins s σ H Q I hw
 refine isTrue_plain (thn (h pins s σ H _ I hw) fun v s1 ⟨x,H1,I1,r1,q1⟩=>?_) (he _)
 obtain ⟨d,rfl,q⟩:=q1
 cases r1
 exact wpAny_truthy_bool ⟨H1,I1,q⟩
variable {tA tB':TT} {qmF:List Expr}
def qtA (t u:TT):TT:=fun σ H Q=>t σ H fun c H1=>if c=true then u σ H1 Q else Q false H1
def tOr (t u:TT):TT:=fun σ H Q=>t σ H fun c H1=>if c=true then Q true H1 else u σ H1 Q
def qtC (t:TT):TT:=fun σ H Q=>t σ H fun c H1=>Q (!c) H1
theorem qma (ha:PT X a tA):PW X (.BoolOp .And [a] pos) tA:=by
 intro wh pins s σ H Q I h
 refine isTrue_and (thn (ha pins s σ H Q I h) fun c s1 e=>?_)
 cases c with
 | true=>exact isTrue_and_nil e
 | false=>exact e
theorem qhv (ha:PT X a tA):PW X (.BoolOp .Or [a] pos) tA:=by
 intro wh pins s σ H Q I h
 refine isTrue_or (thn (ha pins s σ H Q I h) fun c s1 e=>?_)
 cases c with
 | false=>exact isTrue_or_nil e
 | true=>exact e
theorem qog (ha:PT X a tA) (hb:PW X (.BoolOp .And (b::qmF) pos) tB'):PW X (.BoolOp .And (a::b::qmF) pos) (qtA tA tB'):=by
 intro wh pins s σ H Q I h
 refine isTrue_and (thn (ha pins s σ H _ I h) fun c s1 ⟨H1,I1,q1⟩=>?_)
 cases c with
 | true=>exact hb wh pins s1 σ H1 Q I1 q1
 | false=>exact ⟨H1,I1,q1⟩
theorem ql3 (ha:PT X a tA) (hb:PW X (.BoolOp .Or (b::qmF) pos) tB'):PW X (.BoolOp .Or (a::b::qmF) pos) (tOr tA tB'):=by
 intro wh pins s σ H Q I h
 refine isTrue_or (thn (ha pins s σ H _ I h) fun c s1 ⟨H1,I1,q1⟩=>?_)
 cases c with
 | true=>exact ⟨H1,I1,q1⟩
 | false=>exact hb wh pins s1 σ H1 Q I1 q1
theorem qdy (ha:PT X a tA):PT X (.UnaryOp .Not a pos) (qtC tA):=by
 intro pins s σ H Q I h
 exact isTrue_not (ha pins s σ H (fun c H1=>Q (!c) H1) I h)
def qr6 (ta tb:TE):TE:=fun σ H Q=>ta σ H fun x H1=>∃c,x = .bl c/\if c=true then tb σ H1 Q else Q (.bl false) H1
def qt5 (ta tb:TE):TE:=fun σ H Q=>ta σ H fun x H1=>∃c,x = .bl c/\if c=true then Q (.bl true) H1 else tb σ H1 Q
def qrJ (ta:TE):TE:=fun σ H Q=>ta σ H fun x H1=>∃c,x = .bl c/\Q (.bl (!c)) H1
theorem qjw {op} {t:TE} (h:PE X a t):PE X (.BoolOp op [a] pos) t:=fun pins s σ H Q I hw=>BoolOp_one (h pins s σ H Q I hw)
theorem qjp (ha:PE X a ta) (hb:PE X (.BoolOp .And (b::qmF) pos) tb):PE X (.BoolOp .And (a::b::qmF) pos) (qr6 ta tb):=by
 intro pins s σ H Q I h
 refine BoolOp_and (thn (ha pins s σ H _ I h) fun v s1 ⟨x,H1,I1,r1,q1⟩=>?_)
 obtain ⟨c,rfl,q1⟩:=q1
 cases r1
 refine wpAny_truthy_bool ?_
 cases c with
 | true=>exact hb pins s1 σ H1 Q I1 q1
 | false=>exact ⟨.bl false,H1,I1,rfl,q1⟩
theorem qr2 (ha:PE X a ta):PE X (.UnaryOp .Not a pos) (qrJ ta):=by
 intro pins s σ H Q I h
 refine UnaryOp_ (thn (ha pins s σ H _ I h) fun v s1 ⟨x,H1,I1,r1,q1⟩=>?_)
 obtain ⟨c,rfl,q1⟩:=q1
 cases r1
 exact not_of (wpAny_truthy_bool ⟨.bl (!c),H1,I1,rfl,q1⟩)
def tIf (t:TT) (ta tb:TE):TE:=fun σ H Q=>t σ H fun c H1=>if c=true then ta σ H1 Q else tb σ H1 Q
theorem qjy {c:Expr} (hc:PT X c tA) (ha:PE X a ta) (hb:PE X b tb):PE X (.IfExp c a b pos) (tIf tA ta tb):=by
 intro pins s σ H Q I h
 refine wpAny_IfExp (thn (hc pins s σ H _ I h) fun d s1 ⟨H1,I1,q1⟩=>?_)
 cases d with
 | true=>exact ha pins s1 σ H1 Q I1 q1
 | false=>exact hb pins s1 σ H1 Q I1 q1
end
end L2
namespace L2
open PySem PySem.Spec PyProof.Rows
def SqL (K:PySem.W.Frag) (H:Hp) (a:Addr) (xs:List V):Prop :=
 Rd H a (.lst xs) \/
   ∃(o:Obj) (its:Array Value) (n:Nat),K.lookup a=some o/\o.cls = .type "list" /\ o.dict=none/\o.data = .seq its n/\its.size<=sizeLine/\qa6 xs its.toList
def SqT (K:PySem.W.Frag) (H:Hp) (a:Addr) (xs:List V):Prop :=
 Rd H a (.tup xs) \/
   ∃(o:Obj) (its:Array Value) (n:Nat),K.lookup a=some o/\o.cls = .type "tuple" /\ o.data = .seq its n/\its.size<=sizeLine/\qa6 xs its.toList
def qt0:Value->Option V
 | .none=>some .non
 | .bool b=>some (.bl b)
 | .int i _=>some (.int i)
 | .str x _=>some (.str x)
 | .bytes b _=>some (.byt b)
 | .float b _=>some (.flt b)
 | .ref a=>some (.ref a)
 | .type n=>some (.ty n)
 | _=>none
theorem qbo.abs {x:V} {u:Value} (r:qbo x u):qt0 u=some x:=by
 cases x with
 | non=>cases r;rfl
 | bl _=>cases r;rfl
 | int _=>obtain ⟨t,rfl⟩:=r;rfl
 | str _=>obtain ⟨t,rfl⟩:=r;rfl
 | byt _=>obtain ⟨t,rfl⟩:=r;rfl
 | flt _=>obtain ⟨t,rfl⟩:=r;rfl
 | ref _=>cases r;rfl
 | ty _=>cases r;rfl
theorem qbo.inj {x y:V} {u:Value} (r:qbo x u) (q:qbo y u):x=y:=Option.some.inj (r.abs.symm.trans q.abs)
theorem qa6.inj:∀{xs ys:List V} {us:List Value},qa6 xs us->qa6 ys us->xs=ys
 | _,_,_,.nil,.nil=>rfl
 | _,_,_,.cons r t,.cons r' t'=>by rw [r.inj r',qa6.inj t t']
section
variable {X:Cx} {pins:List (Addr×Obj)} {σ:St} {H:Hp} {s:Shared} {a:Addr} {xs ys:List V}
theorem SqL.of {K:PySem.W.Frag} (h:H a=some (.lst xs)):SqL K H a xs := .inl (.inl h)
theorem SqT.of {K:PySem.W.Frag} (h:H a=some (.tup xs)):SqT K H a xs := .inl (.inl h)
theorem Inv.list (I:Inv X pins σ H s) (h:SqL X.K H a xs):∃its:List Value,qa6 xs its/\PlainL s.heap a its.toArray/\xs.length<=sizeLine:=by
 rcases h with h | ⟨o,its,n,hk,hc,hd,hs,hz,r⟩
 . obtain ⟨z,its,n,r,e⟩:=h.ok I.hok
   exact ⟨its,r,⟨_,n,e,rfl,rfl,rfl⟩,z⟩
 . refine ⟨its.toList,r,⟨o,n,I.kIn a o hk,hc,hd,by simpa using hs⟩,?_⟩
   have e:=r.length
   simp only [yca] at e
   omega
theorem Inv.tuple (I:Inv X pins σ H s) (h:SqT X.K H a xs):∃its:List Value,qa6 xs its/\IsTup s.heap a its.toArray/\xs.length<=sizeLine:=by
 rcases h with h | ⟨o,its,n,hk,hc,hs,hz,r⟩
 . obtain ⟨z,its,r,p⟩:=h.ok I.hok
   exact ⟨its,r,p,z⟩
 . refine ⟨its.toList,r,⟨o,I.kIn a o hk,hc,n,by simpa using hs⟩,?_⟩
   have e:=r.length
   simp only [yca] at e
   omega
theorem Inv.list_inj (I:Inv X pins σ H s) (h:SqL X.K H a xs) (h':SqL X.K H a ys):xs=ys:=by
 obtain ⟨its,r,⟨o,n,e,_,_,d⟩,_⟩:=I.list h
 obtain ⟨its',r',⟨o',n',e',_,_,d'⟩,_⟩:=I.list h'
 rw [e] at e';cases e'
 rw [d] at d'
 injection d' with d1 _
 have:its=its':=by simpa using congrArg Array.toList d1
 subst this
 exact r.inj r'
theorem Inv.tuple_inj (I:Inv X pins σ H s) (h:SqT X.K H a xs) (h':SqT X.K H a ys):xs=ys:=by
 obtain ⟨its,r,⟨o,e,_,n,d⟩,_⟩:=I.tuple h
 obtain ⟨its',r',⟨o',e',_,n',d'⟩,_⟩:=I.tuple h'
 rw [e] at e';cases e'
 rw [d] at d'
 injection d' with d1 _
 have:its=its':=by simpa using congrArg Array.toList d1
 subst this
 exact r.inj r'
end
abbrev Cx.wish (X:Cx) (E:Value->Shared->Prop):Cx:={ X with xe:=E }
abbrev Cx.nox (X:Cx):Cx:=X.wish fun _ _=>False
theorem Cx.Ok.wish {X:Cx} (ok:X.Ok) (E:Value->Shared->Prop):(X.wish E).Ok :=
 ⟨ok.mod,ok.kind,ok.glob,ok.blt,ok.above,ok.inj,ok.has,ok.cab,ok.hd,ok.frames,ok.stk,ok.exf,ok.bs,ok.bsz,ok.noex,ok.exfs,ok.funs,ok.frf⟩
theorem Cx.Ok.unwish {X:Cx} {E:Value->Shared->Prop} (ok:(X.wish E).Ok):X.Ok :=
 ⟨ok.mod,ok.kind,ok.glob,ok.blt,ok.above,ok.inj,ok.has,ok.cab,ok.hd,ok.frames,ok.stk,ok.exf,ok.bs,ok.bsz,ok.noex,ok.exfs,ok.funs,ok.frf⟩
section
variable {X:Cx} {pins:List (Addr×Obj)} {σ:St} {H:Hp} {s:Shared} {E:Value->Shared->Prop}
theorem Inv.wish (I:Inv X pins σ H s) (E:Value->Shared->Prop):Inv (X.wish E) pins σ H s:=⟨I.ok.wish E,I.os,I.bare,I.base,I.loc,I.cell,I.free,I.freeC,I.pin,I.hok,I.len,I.tk⟩
theorem Inv.unwish (I:Inv (X.wish E) pins σ H s):Inv X pins σ H s:=⟨I.ok.unwish,I.os,I.bare,I.base,I.loc,I.cell,I.free,I.freeC,I.pin,I.hok,I.len,I.tk⟩
theorem SP.unwish {D:qeY} {f:Flow} {s':Shared} (h:SP (X.wish E) pins D f s'):SP X pins D f s':=by
 cases f with
 | next=>obtain ⟨σ',H',I,q⟩:=h;exact ⟨σ',H',I.unwish,q⟩
 | brk=>obtain ⟨σ',H',I,q⟩:=h;exact ⟨σ',H',I.unwish,q⟩
 | cont=>obtain ⟨σ',H',I,q⟩:=h;exact ⟨σ',H',I.unwish,q⟩
 | ret u=>obtain ⟨v,σ',H',I,r,q⟩:=h;exact ⟨v,σ',H',I.unwish,r,q⟩
theorem PSs.nox {st:List Stmt} {t:TS} (h:PSs X.nox st t):PSs X st t:=fun pins s σ H D I hw =>
 wpAny_mono (h pins s σ H D (I.wish _) hw) (fun _ _ q=>q.unwish) fun _ _ z=>False.elim z
end
section
variable {X:Cx} {st:Stmt} {qmF:List Stmt} {t u:TS} {e:Expr} {te:TE} {pos:Pos}
def qj5:TS:=fun D σ H=>D.nx σ H
def qjT (t u:TS):TS:=fun D σ H=>t { D with nx:=u D } σ H
theorem qam:PSs X [] qj5:=fun _ _ σ H _ I h=>wpAny_execs_nil ⟨σ,H,I,h⟩
theorem qac (h1:PS X st t) (h2:PSs X qmF u):PSs X (st::qmF) (qjT t u):=by
 intro pins s σ H D I h
 refine wpAny_execs_cons (thn (h1 pins s σ H { D with nx:=u D } I h) fun f s1 q=>?_)
 cases f with
 | next =>
   obtain ⟨σ',H',I',q⟩:=q
   exact h2 pins s1 σ' H' D I' q
 | ret v=>exact q
 | brk=>exact q
 | cont=>exact q
theorem qag (h1:PS X st t):PSs X [st] t:=by
 intro pins s σ H D I h
 refine wpAny_execs_cons (thn (h1 pins s σ H D I h) fun f s1 q=>?_)
 cases f with
 | next=>exact wpAny_execs_nil q
 | ret v=>exact q
 | brk=>exact q
 | cont=>exact q
theorem Inv.quiet {pins:List (Addr×Obj)} {σ:St} {H:Hp} {s:Shared} (I:Inv X pins σ H s):interactive X.env=false:=by simp [interactive,I.ok.kind]
def qpk (te:TE):TS:=fun D σ H=>te σ H fun _ H1=>D.nx σ H1
theorem qbT (he:PE X e te) (hs:swapsWith e none pos.line X.env=pure false:=by rfl):PS X (.Expr e pos) (qpk te):=by
 intro pins s σ H D I h
 exact wpAny_Expr_any (thn (he pins s σ H _ I h) fun v s1 ⟨x,H1,I1,r1,q1⟩=>⟨σ,H1,I1,q1⟩) I.quiet hs
def qsX (te:TE):TS:=fun D σ H=>te σ H D.rt
theorem qao (he:PE X e te):PS X (.Return (some e) pos) (qsX te):=by
 intro pins s σ H D I h
 exact wpAny_Return_some (thn (he pins s σ H _ I h) fun v s1 ⟨x,H1,I1,r1,q1⟩=>⟨x,σ,H1,I1,r1,q1⟩)
def qs0:TS:=fun D _ H=>D.rt .non H
def qqC (c:TT) (t u:TS):TS:=fun D σ H=>c σ H fun b H1=>if b=true then t D σ H1 else u D σ H1
theorem qaA {c:Expr} {a b:List Stmt} {tc:TT} (hc:PT X c tc) (ha:PSs X a t) (hb:PSs X b u):PS X (.If c a b pos) (qqC tc t u):=by
 intro pins s σ H D I h
 refine wpAny_If (thn (hc pins s σ H _ I h) fun d s1 ⟨H1,I1,q1⟩=>?_)
 cases d with
 | true=>exact ha pins s1 σ H1 D I1 q1
 | false=>exact hb pins s1 σ H1 D I1 q1
def qqZ:TS:=fun _ _ _=>False
end
abbrev TG:=V->St->Hp->(St->Hp->Prop)->Prop
abbrev TGs:=List V->St->Hp->(St->Hp->Prop)->Prop
def PG (X:Cx) (target:Expr) (t:TG):Prop :=
 ∀(pins:List (Addr×Obj)) (s:Shared) (σ:St) (H:Hp) (v:V) (u:Value) (Q:St->Hp->Prop),Inv X pins σ H s->qbo v u->t v σ H Q ->
   wpAny (model X.prog X.w) X.A (assign target X.env u) (fun _ s'=>∃σ' H',Inv X pins σ' H' s'/\Q σ' H') X.xe s
def PGs (X:Cx) (ts:List Expr) (t:TGs):Prop :=
 ∀(pins:List (Addr×Obj)) (s:Shared) (σ:St) (H:Hp) (vs:List V) (us:List Value) (Q:St->Hp->Prop),Inv X pins σ H s->qa6 vs us->t vs σ H Q ->
   wpAny (model X.prog X.w) X.A (assignInOrder ((assignEach ts X.env).map (·.2)) us) (fun _ s'=>∃σ' H',Inv X pins σ' H' s'/\Q σ' H') X.xe s
abbrev qtl:=V->V->V->Hp->(Hp->Prop)->Prop
def qtB (X:Cx) (t:qtl):Prop :=
 ∀(pins:List (Addr×Obj)) (s:Shared) (σ:St) (H:Hp) (o i v:V) (ov iv u:Value) (Q:Hp->Prop),Inv X pins σ H s->qbo o ov->qbo i iv->qbo v u->t o i v H Q ->
   wpAny (model X.prog X.w) X.A (setItem ov iv u) (fun _ s'=>∃H',Inv X pins σ H' s'/\Q H') X.xe s
section
variable {X:Cx} {pos:Pos}
def qey (i:Nat):TG:=fun v σ H Q=>Q (σ.set i (some v)) H
theorem qaF {i:Nat} {x:Str} (hN:X.N.Nodup) (hi:X.N[i]?=some x) (hx:Loc X.env.scope x) (hf:X.fn x=true\/X.env.scope.names.lookup x=some .local:=by first | exact .inl rfl | exact .inr rfl | assumption):PG X (.Name x pos) (qey i):=by
 intro pins s σ H v u Q I r h
 exact wpAny_assign_Name (qde I hN hi hx r (fun s' I'=>⟨_,H,I',h⟩) hf)
def qs1:TGs:=fun vs σ H Q=>vs=[]/\Q σ H
def qn5 (t:TG) (u:TGs):TGs:=fun vs σ H Q=>∃v r,vs=v::r/\t v σ H fun σ' H'=>u r σ' H' Q
theorem qmw:PGs X [] qs1:=by
 intro pins s σ H vs us Q I r h
 obtain ⟨e,h⟩:=h
 subst e
 cases r
 exact assignInOrder_nil ⟨σ,H,I,h⟩
theorem qeP {e:Expr} {es:List Expr} {t:TG} {u:TGs} (h1:PG X e t) (h2:PGs X es u)
   (hs:(assignEach (e::es) X.env).map (·.2)=assign e X.env::(assignEach es X.env).map (·.2):=by rfl):PGs X (e::es) (qn5 t u):=by
 intro pins s σ H vs us Q I r h
 obtain ⟨v,vr,e1,h⟩:=h
 subst e1
 cases r with
 | cons r rr =>
   rw [hs]
   refine assignInOrder_cons (thn (h1 pins s σ H _ _ _ I r h) fun _ s1 ⟨σ1,H1,I1,q1⟩=>?_)
   exact h2 pins s1 σ1 H1 _ _ Q I1 rr q1
def qtr (K:PySem.W.Frag) (n:Nat) (t:TGs):TG:=fun v σ H Q=>∃a xs,v = .ref a/\SqT K H a xs/\xs.length=n/\t xs σ H Q
theorem qoD {es:List Expr} {k:Nat} {t:TGs} {n:Nat} (hc:X.calm=true) (h:PGs X es t)
   (hn:(assignEach es X.env).length=n:=by rfl) (hst:(assignEach es X.env).findIdx? (·.1)=none:=by rfl):PG X (.Tuple es k pos) (qtr X.K n t):=by
 intro pins s σ H v u Q I r hw
 obtain ⟨a,xs,e1,hq,hl,hw⟩:=hw
 subst e1
 cases r
 obtain ⟨its,rv,ht,hz⟩:=I.tuple hq
 refine assign_Tuple_tuple (I.ok.hd hc) ht (by simp [hn,<-hl,rv.length]) hst fun h' hx=>?_
 have I1:Inv X pins σ H { s with heap:=h' }:=I.kept (t':=s.toks) fun b o e=>hx b o (ycu (ycs e)) e
 exact h pins _ σ H xs _ Q I1 (by simpa using rv) hw
def qtI (to ti:TE) (t:qtl):TG:=fun v σ H Q=>to σ H fun o H1=>ti σ H1 fun i H2=>t o i v H2 fun H3=>Q σ H3
theorem qrU {o i:Expr} {to ti:TE} {t:qtl} (ho:PE X o to) (hi:PE X i ti) (hs:qtB X t)
   (ha:∀v,assign (.Subscript o i pos) X.env v=(do
     let ov <-holding [v] (eval o X.env)
     let iv <-holding [v,ov] (eval i X.env)
     standAt pos
     holding [v,ov,iv] (setItem ov iv v)
     release [v,ov,iv] []):=by intro _;rfl):PG X (.Subscript o i pos) (qtI to ti t):=by
 intro pins s σ H v u Q I r h
 rw [ha]
 refine wpAny_bind (wpAny_holding (thn (ho pins s σ H _ I h) fun ov s1 ⟨x,H1,I1,r1,q1⟩=>?_))
 refine wpAny_bind (wpAny_holding (thn (hi pins s1 σ H1 _ I1 q1) fun iv s2 ⟨y,H2,I2,r2,q2⟩=>?_))
 refine wpAny_bind (wpAny_standAt (wpAny_bind (wpAny_holding (thn (hs pins s2 σ H2 x y v ov iv u _ I2 r1 r2 r q2) fun _ s3 ⟨H3,I3,q3⟩=>?_))))
 exact wpAny_release ⟨σ,H3,I3,q3⟩
def qoh (te:TE) (g:TG):TS:=fun D σ H=>te σ H fun x H1=>g x σ H1 D.nx
theorem qor {tg e:Expr} {te:TE} {g:TG} (he:PE X e te) (hg:PG X tg g) (hs:swapsWithSole [tg] e pos.line X.env=pure false:=by rfl) (hw:swappedStores [tg] e X.env=pure none:=by rfl)
   (h1:(assignEach [tg] X.env).map (·.2)=[assign tg X.env]:=by rfl):PS X (.Assign [tg] e pos) (qoh te g):=by
 intro pins s σ H D I h
 refine wpAny_Assign_stores (thn (he pins s σ H _ I h) fun v s1 ⟨x,H1,I1,r1,q1⟩=>?_) hs hw
 rw [h1]
 exact thn (hg pins s1 σ H1 x v _ I1 r1 q1) fun _ s2 q=>q
theorem qax {i:Nat} {x:Str} {e:Expr} {te:TE} {pos':Pos} (hN:X.N.Nodup) (hi:X.N[i]?=some x) (hx:Loc X.env.scope x) (he:PE X e te) (hs:swapsWith e (some (.Name x pos')) pos.line X.env=pure false:=by rfl) (hf:X.fn x=true\/X.env.scope.names.lookup x=some .local:=by first | exact .inl rfl | exact .inr rfl | assumption) :
   PS X (.Assign [.Name x pos'] e pos) (qoh te (qey i)):=by
 intro pins s σ H D I h
 refine wpAny_Assign_Name (thn (he pins s σ H _ I h) fun v s1 ⟨y,H1,I1,r1,q1⟩=>?_) hs
 exact qde I1 hN hi hx r1 (fun s2 I2=>⟨_,H1,I2,q1⟩) hf
def qtY (i j:Nat) (ta:TA):TS:=fun D σ H=>ta σ H fun vs H1=>∃v w,vs=[v,w]/\D.nx ((σ.set i (some v)).set j (some w)) H1
end
section
variable {X:Cx} {pos:Pos}
def qjc (c:TT) (tb:TS):TS:=fun D σ H=>∃W:Nat->St->Hp->Prop,(∃m,W m σ H)/\∀m σ H,W m σ H ->
 c σ H fun b H1=>if b=true then ∃N:St->Hp->Prop,(∀σ' H',N σ' H'->∃m',m'<m/\W m' σ' H')/\tb { D with nx:=N,ct:=N,bk:=D.nx } σ H1 else D.nx σ H1
theorem qnP {c:Expr} {body:List Stmt} {tc:TT} {tb:TS} (hp:PassesOwn (model X.prog X.w) X.A X.env X.xe) (hc:PT X c tc) (hb:PSs X body tb):PS X (.While c body [] pos) (qjc tc tb):=by
 intro pins s σ H D I h
 obtain ⟨W,⟨m0,w0⟩,turn⟩:=h
 refine wpAny_While (codeAny_whileLoop (fun n s'=>∃σ' H',Inv X pins σ' H' s'/\W n σ' H') ?_ m0 ⟨σ,H,I,w0⟩)
 rintro n s1 ⟨σ1,H1,I1,w1⟩
 refine wpAny_passesOwn hp (thn (hc pins s1 σ1 H1 _ I1 (turn n σ1 H1 w1)) fun b s2 ⟨H2,I2,q2⟩=>?_)
 cases b with
 | true =>
   obtain ⟨N,hN,q2⟩:=q2
   rw [if_pos rfl]
   refine wpAny_passesOwn hp (thn (hb pins s2 σ1 H2 _ I2 q2) fun f s3 q3=>?_)
   cases f with
   | next =>
     obtain ⟨σ3,H3,I3,n3⟩:=q3
     obtain ⟨m',hm,w3⟩:=hN σ3 H3 n3
     exact ⟨m',hm,σ3,H3,I3,w3⟩
   | cont =>
     obtain ⟨σ3,H3,I3,n3⟩:=q3
     obtain ⟨m',hm,w3⟩:=hN σ3 H3 n3
     exact ⟨m',hm,σ3,H3,I3,w3⟩
   | brk=>exact q3
   | ret v=>exact q3
 | false =>
   rw [if_neg ydu]
   exact wpAny_execs_nil ⟨σ1,H2,I2,q2⟩
end
structure It where
 go:Nat->Hp->Prop
 yld:Nat->Hp->V->Hp->Prop
 stop:Nat->Hp->Prop
def qh3 (X:Cx) (pins:List (Addr×Obj)) (H:Hp) (b:Addr):Prop :=
 H b=none/\b≠X.env.locals/\b∉X.fs/\(b∈X.ex\/X.s₀.heap.objs.size<=b)/\(∀x c,X.env.cells.lookup x=some c->c≠b)/\∀p∈X.pn++pins,p.1≠b
theorem Inv.fpOk {X:Cx} {pins:List (Addr×Obj)} {σ:St} {H H':Hp} {s:Shared} {b:Addr} (I:Inv X pins σ H s) (hb:s.heap.objs.size<=b) (hn:H' b=none):qh3 X pins H' b:=by
 refine ⟨hn,ycx (yae I.lt hb),I.nofs hb,.inr (ybt I.sz hb),fun x c e z=>?_,fun p hp z=>?_⟩
 . obtain ⟨v,q⟩:=I.cell x c e
   exact absurd (yae q.lt (by rw [z];exact hb)) (ydn _)
 . exact absurd (yae (ycs (I.pin p hp).1) (by rw [z];exact hb)) (ydn _)
structure qqx (P:Program) (w:World) (K:PySem.W.Frag) (tg:Expr) (J:It) (fp:List Addr) (it:Addr) (tn:Nat->Heap->Prop):Prop where
 mem:it∈fp
 obj:∀i h,tn i h->∀b∈fp,∃o,h.get? b=some o/\∀v,o.data ≠ .cell v
 keep:∀i h h',tn i h->(∀b∈fp,∀o,h.get? b=some o->h'.get? b=some o)->tn i h'
 item:∀(X:Cx),X.prog=P->X.w=w->X.K=K->X.calm=true->∀(i:Nat) (pins:List (Addr×Obj)) (s:Shared) (σ:St) (H:Hp) (E:Value->Shared->Prop),Inv X pins σ H s->(∀b∈fp,qh3 X pins H b)->tn i s.heap->J.go i H ->
   wpAny (model P w) X.A (pyNext (.ref it)) (fun r s1=>∃u,r=some u /\
     wpAny (model P w) X.A (letOwnedTupleGo tg (.ref it) u) (fun _ s2=>∃x H',Inv X pins σ H' s2/\qbo x u/\J.yld i H x H'/\tn (i+1) s2.heap/\∀b∈fp,H' b=none) E s1) E s
 done:∀(X:Cx),X.prog=P->X.w=w->X.K=K->X.calm=true->∀(i:Nat) (pins:List (Addr×Obj)) (s:Shared) (σ:St) (H:Hp) (E:Value->Shared->Prop),Inv X pins σ H s->(∀b∈fp,qh3 X pins H b)->tn i s.heap->J.stop i H ->
   wpAny (model P w) X.A (pyNext (.ref it)) (fun r s1=>r=none/\Inv X pins σ H s1) E s
 self:∀(A:Around) (i:Nat) (s:Shared) (Q:Value->Shared->Prop) (E:Value->Shared->Prop),tn i s.heap->Q (.ref it) s->wpAny (model P w) A (pyIter (.ref it)) Q E s
abbrev TI:=St->Hp->(It->Hp->Prop)->Prop
def PIE (X:Cx) (pins:List (Addr×Obj)) (σ:St) (tg:Expr) (R:It->Hp->Prop) (itv:Value) (s2:Shared):Prop :=
 ∃(it:Addr) (fp:List Addr) (tn:Nat->Heap->Prop) (J:It) (H':Hp),itv = .ref it/\Inv X pins σ H' s2/\qqx X.prog X.w X.K tg J fp it tn/\tn 0 s2.heap/\(∀b∈fp,qh3 X pins H' b)/\R J H'
def PI (X:Cx) (tg iter:Expr) (wi:TI):Prop :=
 ∀(pins:List (Addr×Obj)) (s:Shared) (σ:St) (H:Hp) (R:It->Hp->Prop),Inv X pins σ H s->wi σ H R ->
   wpAny (model X.prog X.w) X.A (eval iter X.env) (fun v s1=>wpAny (model X.prog X.w) X.A (pyIter v) (PIE X pins σ tg R) X.xe s1) X.xe s
theorem qpz {M:Model} {A:Around} {E:Value->Shared->Prop} {s:Shared} {tg:Expr} {it:Addr} {u:Value} {o:Obj} {n:String} {vs:Array Value} {Q:Unit->Shared->Prop} (ho:s.heap.get? it=some o) (hc:o.cls = .type n) (hd:o.data = .fields vs)
   (hn:["enumerate", "zip", "dict_itemiterator", "dict_reverseitemiterator", "odict_iterator", "itertools.zip_longest", "itertools.pairwise"].contains n=false) (hQ:Q () s):wpAny M A (letOwnedTupleGo tg (.ref it) u) Q E s:=by
 unfold letOwnedTupleGo
 cases tg<;>first
   | exact wpAny_pure hQ
   | (cases u<;>first
       | exact wpAny_pure hQ
       | (refine wpAny_bind (wpAny_load ho ?_)
          rw [hc,hd]
          show wpAny M A (if (["enumerate", "zip", "dict_itemiterator", "dict_reverseitemiterator", "odict_iterator", "itertools.zip_longest", "itertools.pairwise"].contains n&&vs[0]?==some (rawInt _))=true then _ else _) Q E s
          rw [if_neg (by intro h;rw [hn,ydv] at h;cases h)]
          exact wpAny_pure hQ))
def Itl (K:PySem.W.Frag) (a:Addr):It :=
 ⟨fun i H=>∃xs x,SqL K H a xs/\xs[i]?=some x,fun i H x H'=>H'=H/\∀xs,SqL K H a xs->xs[i]?=some x,fun i H=>∃xs,SqL K H a xs/\xs.length<=i⟩
def Itt (K:PySem.W.Frag) (a:Addr):It :=
 ⟨fun i H=>∃xs x,SqT K H a xs/\xs[i]?=some x,fun i H x H'=>H'=H/\∀xs,SqT K H a xs->xs[i]?=some x,fun i H=>∃xs,SqT K H a xs/\xs.length<=i⟩
def Itr (lo:Int) (n:Nat):It:=⟨fun i _=>i<n,fun i H x H'=>H'=H/\x = .int (lo+i),fun i _=>n<=i⟩
theorem qky {P:Program} {w:World} {K:PySem.W.Frag} {tg:Expr} (a it:Addr):qqx P w K tg (Itl K a) [it] it (fun i h=>h.IsListIter it a i) where
 mem:=by simp
 obj:=fun i h st b hb=>by
   have e:b=it:=by simpa using hb
   subst e
   obtain ⟨o,e,c,d⟩:=st
   exact ⟨o,e,fun v z=>by rw [d] at z;cases z⟩
 keep:=fun i h h' st k=>st.at fun o e=>k it (by simp) o e
 item:=by
   intro X hP hw hK hc i pins s σ H E I hf st hg
   subst hP hw hK
   obtain ⟨xs,x,hq,hx⟩:=hg
   obtain ⟨its,rv,p,hz⟩:=I.list hq
   obtain ⟨u,hu,ru⟩:=rv.get hx
   obtain ⟨f0,f1,f2,f3,f4,f5⟩:=hf it (by simp)
   refine wpAny_pyNext_list_item st p.isList (x:=u) (by simpa using hu) fun h' st' sb=>?_
   have I1:Inv X pins σ H { s with heap:=h' }:=I.turned (t':=s.toks) (fun b o hb e=>(sb.2 b hb).trans e) f0 f1 f3 f4 f5
   obtain ⟨o,e,c,d⟩:=id st'
   exact ⟨u,rfl,qpz (s:={ s with heap:=h' }) e c d (by decide) ⟨x,H,I1,ru,⟨rfl,fun ys hy=>by rw [I.list_inj hy hq];exact hx⟩,st',fun b hb=>(hf b hb).1⟩⟩
 done:=by
   intro X hP hw hK hc i pins s σ H E I hf st hg
   subst hP hw hK
   obtain ⟨xs,hq,hx⟩:=hg
   obtain ⟨its,rv,p,hz⟩:=I.list hq
   obtain ⟨f0,f1,f2,f3,f4,f5⟩:=hf it (by simp)
   have hl:=rv.length
   exact wpAny_pyNext_list_end (I.ok.hd hc) st p.isList (by simp;omega) fun h' eb=>⟨rfl,I.turned (t':=s.toks) (fun b o hb e=>eb b o hb e) f0 f1 f3 f4 f5⟩
 self:=fun _ _ _ _ _ st h=>wpAny_pyIter_listiter st h
theorem qjD {P:Program} {w:World} {K:PySem.W.Frag} {tg:Expr} (it:Addr) (lo:Int) (n:Nat):qqx P w K tg (Itr lo n) [it] it (fun i h=>IsRangeIter h it (lo+(i:Nat)*1) ((n:Int)-(i:Nat)) 1) where
 mem:=by simp
 obj:=fun i h st b hb=>by
   have e:b=it:=by simpa using hb
   subst e
   exact ⟨_,st,fun v z=>by
     have z':Data.fields _=Data.cell v:=z
     cases z'⟩
 keep:=fun i h h' st k=>k it (by simp) _ st
 item:=by
   intro X hP hw hK hc i pins s σ H E I hf st hg
   subst hP hw hK
   obtain ⟨f0,f1,f2,f3,f4,f5⟩:=hf it (by simp)
   have W:=Walks.range (prog:=X.prog) (w:=X.w) (I.ok.hd hc) it lo 1 n
   refine wpAny_with_toks I.tk (W.item i s _ _ hg st fun v h' tk hv st' kk htk=>?_)
   obtain ⟨t,rfl⟩:=hv
   have htk:1<=tk:=htk
   have I1:Inv X pins σ H { s with heap:=h',toks:=tk }:=I.turned (fun b o hb e=>kk b o (by simpa using hb) e) f0 f1 f3 f4 f5
   refine ⟨_,rfl,qpz (s:={ s with heap:=h',toks:=tk }) (n := "range_iterator") st' rfl rfl (by decide) ⟨.int (lo+i),H,I1,⟨t,?_⟩,⟨rfl,rfl⟩,st',fun b hb=>(hf b hb).1⟩⟩
   rw [Int.mul_one]
 done:=by
   intro X hP hw hK hc i pins s σ H E I hf st hg
   subst hP hw hK
   obtain ⟨f0,f1,f2,f3,f4,f5⟩:=hf it (by simp)
   exact wpAny_pyNext_range_end (I.ok.hd hc) st (by have:n<=i:=hg;omega) fun h' eb=>⟨rfl,I.turned (t':=s.toks) (fun b o hb e=>eb b o hb e) f0 f1 f3 f4 f5⟩
 self:=fun _ _ _ _ _ st h=>wpAny_pyIter_rangeiter st h
end L2
namespace L2
open PySem PySem.Spec PyProof.Rows
section
variable {X:Cx} {tg:Expr}
def qpd (K:PySem.W.Frag) (tl:TE):TI:=fun σ H R=>tl σ H fun x H1=>∃a,x = .ref a/\(∃xs,SqL K H1 a xs)/\R (Itl K a) H1
def qtW (K:PySem.W.Frag) (tl:TE):TI:=fun σ H R=>tl σ H fun x H1=>∃a,x = .ref a/\(∃xs,SqT K H1 a xs)/\R (Itt K a) H1
theorem qb1 {l:Expr} {tl:TE} (hl:PE X l tl):PI X tg l (qpd X.K tl):=by
 intro pins s σ H R I h
 refine thn (hl pins s σ H _ I h) fun v s1 ⟨x,H1,I1,r1,q1⟩=>?_
 obtain ⟨a,e,⟨xs,hq⟩,q⟩:=q1
 subst e
 cases r1
 obtain ⟨its,rv,p,hz⟩:=I1.list hq
 refine wpAny_pyIter_list p.isList ?_
 refine ⟨s1.heap.objs.size,[s1.heap.objs.size],_,_,H1,rfl,I1.kept (t':=s1.toks) fun b o e=>ycr _ e,qky a _,⟨_,ycq _ rfl,rfl,rfl⟩,fun b hb=>?_,q⟩
 have e:b=s1.heap.objs.size:=by simpa using hb
 subst e
 exact I1.fpOk (yax _) (I1.hok.fresh (yax _))
theorem qnr {pins:List (Addr×Obj)} {σ:St} {H:Hp} {s:Shared} {R:It->Hp->Prop} {E:Value->Shared->Prop} {lo hi:Int} {t u v:Tok} {tk:Nat} (I:Inv X pins σ H s) (h1:-(2^62)<=lo) (h2:lo<2^62) (h3:-(2^62)<=hi) (h4:hi<2^62)
   (q:R (Itr lo (hi-lo).toNat) H) (htk:1<=tk:=by first | exact ydo 1 _ | assumption | exact Inv.tk (by assumption) | omega):wpAny (model X.prog X.w) X.A (pyIter (.ref s.heap.objs.size)) (PIE X pins σ tg R) E { s with heap:=s.heap.push { cls := .type "range",data := .fields #[.int lo t,.int hi u,.int 1 v] },toks:=tk }:=by
 refine wpAny_pyIter_range (IsRange.new ..) (small_one h1 h2 h3 h4) ?_
 have I1:Inv X pins σ H { s with heap:=s.heap.push { cls := .type "range",data := .fields #[.int lo t,.int hi u,.int 1 v] },toks:=tk }:=I.kept fun b o e=>ycr _ e
 refine ⟨(s.heap.push { cls := .type "range",data := .fields #[.int lo t,.int hi u,.int 1 v] }).objs.size,[(s.heap.push { cls := .type "range",data := .fields #[.int lo t,.int hi u,.int 1 v] }).objs.size],_,_,H,rfl,
   I1.kept (t':=tk) fun b o e=>ycr _ e,qjD _ lo (hi-lo).toNat,?_,fun b hb=>?_,q⟩
 . have e1:lo+((0:Nat):Int)*1=lo:=by simp
   have e2:(((hi-lo).toNat:Nat):Int)-((0:Nat):Int)=Builtin.Range.rangeSize lo hi 1:=by rw [rangeSize_one];split<;>omega
   show IsRangeIter _ _ (lo+((0:Nat):Int)*1) ((((hi-lo).toNat:Nat):Int)-((0:Nat):Int)) 1
   rw [e1,e2]
   exact ycq _ rfl
 . have e:b=(s.heap.push { cls := .type "range",data := .fields #[.int lo t,.int hi u,.int 1 v] }).objs.size:=by simpa using hb
   subst e
   exact I1.fpOk (yax _) (I1.hok.fresh (yax _))
def qoU (ta:TA):TI:=fun σ H R=>ta σ H fun vs H1=>∃j:Int,vs=[.int j]/\-(2^62)<=j/\j<2^62/\R (Itr 0 j.toNat) H1
def qr5 (ta:TA):TI:=fun σ H R=>ta σ H fun vs H1=>∃i j:Int,vs=[.int i,.int j]/\(-(2^62)<=i/\i<2^62/\-(2^62)<=j/\j<2^62)/\R (Itr i (j-i).toNat) H1
theorem qbq {a:Expr} {ta:TA} {p pos:Pos} (hg:Gl X "range") (hm:X.mg "range" = none) (ha:PA X [a] ta) (hs:starEach [a] X.env=[(false,eval a X.env)]:=by rfl):PI X tg (.Call (.Name "range" p) [a] [] pos) (qoU ta):=by
 intro pins s σ H R I h
 refine Call_ (qhq I hg hm boot_range (PyProof.Rows.callWith_type1 (thn (ha pos pins s σ H _ I h) fun us s1 ⟨vs,H1,I1,r1,q1⟩=>?_) hs rfl))
 obtain ⟨j,e,q1,q2,q⟩:=q1
 subst e
 cases r1 with
 | cons r rr =>
   cases rr
   obtain ⟨t,rfl⟩:=r
   exact call_range_1 (qnr I1 (by omega) (by omega) q1 q2 (by simpa using q))
def qoq (wi:TI) (g:TG) (tb:TS):TS:=fun D σ H=>wi σ H fun J H1=>∃W:Nat->Nat->St->Hp->Prop,(∃m,W 0 m σ H1)/\∀i m σ H,W i m σ H ->
 (J.stop i H/\D.nx σ H)\/(J.go i H/\∃N:St->Hp->Prop,(∀σ' H',N σ' H'->∃m',m'<m/\W (i+1) m' σ' H')/\∀x H',J.yld i H x H'->g x σ H' fun σ2 H2=>tb { D with nx:=N,ct:=N,bk:=D.nx } σ2 H2)
def qdx (fp:List Addr) (h:Heap):List (Addr×Obj):=fp.filterMap fun b=>(h.get? b).map fun o=>(b,o)
theorem qbK {fp:List Addr} {h:Heap} {b:Addr} {o:Obj} (hb:b∈fp) (e:h.get? b=some o):(b,o)∈qdx fp h:=yci.mpr ⟨b,hb,by rw [e];rfl⟩
theorem qlO {fp:List Addr} {h:Heap} {p:Addr×Obj} (hp:p∈qdx fp h):p.1∈fp/\h.get? p.1=some p.2:=by
 obtain ⟨b,hb,e⟩:=yci.mp hp
 cases q:h.get? b with
 | none=>rw [q] at e;cases e
 | some o =>
   rw [q] at e
   have e':(b,o)=p:=Option.some.inj e
   subst e'
   exact ⟨hb,q⟩
theorem Inv.pinned {pins:List (Addr×Obj)} {σ:St} {H:Hp} {s:Shared} {fp:List Addr} (I:Inv X pins σ H s) (hf:∀b∈fp,qh3 X pins H b) (ho:∀b∈fp,∃o,s.heap.get? b=some o/\∀v,o.data ≠ .cell v):Inv X (pins++qdx fp s.heap) σ H s :=
 I.pins_of fun p hp=>(yat.mp hp).elim (fun z=>I.pin p (ydw _ z)) fun z=>by
   obtain ⟨hb,e⟩:=qlO z
   obtain ⟨f0,f1,f2,_⟩:=hf p.1 hb
   obtain ⟨o,e',d⟩:=ho p.1 hb
   rw [e] at e';cases e'
   exact ⟨e,f0,f1,f2,d⟩
theorem Inv.unpinned {pins pl:List (Addr×Obj)} {σ:St} {H:Hp} {s:Shared} (I:Inv X (pins++pl) σ H s):Inv X pins σ H s:=I.pins_of fun p hp=>I.pin p (ydw _ (yas _ hp))
theorem qdT {iter:Expr} {body:List Stmt} {wi:TI} {g:TG} {tb:TS} {pos:Pos} (hp:PassesOwn (model X.prog X.w) X.A X.env X.xe) (hc:X.calm=true) (hi:PI X tg iter wi) (hg:PG X tg g) (hb:PSs X body tb)
   (hs:∀x,foldedSetIterable iter X.env x=pure x:=by intro _;rfl):PS X (.For tg iter body [] pos) (qoq wi g tb):=by
 intro pins s σ H D I h
 refine wpAny_For (thn (hi pins s σ H _ I h) fun v s1 h1=>thn h1 fun itv s2 h2=>?_) hs
 obtain ⟨it,fp,tn,J,H2,e,I2,T,st2,f2,W,⟨m0,w0⟩,turn⟩:=h2
 subst e
 -- what stays true of the iterator's objects through the loop
 have stat:∀{H':Hp},(∀b∈fp,H' b=none)->∀b∈fp,qh3 X pins H' b:=fun hn b hb=>⟨hn b hb,(f2 b hb).2⟩
 refine codeAny_forLoop_any (fun n s'=>∃i σ' H',Inv X pins σ' H' s'/\tn i s'.heap/\(∀b∈fp,H' b=none)/\W i n σ' H') ?_ m0 ⟨0,σ,H2,I2,st2,fun b hb=>(f2 b hb).1,w0⟩
 rintro n s3 ⟨i,σ3,H3,I3,st3,fr3,w3⟩
 rcases turn i n σ3 H3 w3 with ⟨stop,qn⟩ | ⟨go,N,hN,step⟩
 . refine wpAny_passesOwn hp (thn (T.done X rfl rfl rfl hc i pins s3 σ3 H3 X.xe I3 (stat fr3) st3 stop) fun r s4 ⟨hr,I4⟩=>?_)
   subst hr
   exact wpAny_execs_nil ⟨σ3,H3,I4,qn⟩
 . refine wpAny_passesOwn hp (thn (T.item X rfl rfl rfl hc i pins s3 σ3 H3 X.xe I3 (stat fr3) st3 go) fun r s4 ⟨u,hr,h4⟩=>?_)
   subst hr
   refine wpAny_passesOwn hp (thn h4 fun _ s5 ⟨x,H5,I5,r5,y5,st5,fr5⟩=>?_)
   have I5':=I5.pinned (stat fr5) (T.obj _ _ st5)
   refine wpAny_passesOwn hp (thn (hg _ s5 σ3 H5 x u _ I5' r5 (step x H5 y5)) fun _ s6 ⟨σ6,H6,I6,q6⟩=>?_)
   refine wpAny_passesOwn hp (thn (hb _ s6 σ6 H6 _ I6 q6) fun f s7 q7=>?_)
   have again:∀{σ7:St} {H7:Hp},Inv X (pins++qdx fp s5.heap) σ7 H7 s7->N σ7 H7->∃m,m<n/\∃i σ' H',Inv X pins σ' H' s7/\tn i s7.heap/\(∀b∈fp,H' b=none)/\W i m σ' H':=fun {σ7 H7} I7 n7=>by
     obtain ⟨m',hm,w7⟩:=hN σ7 H7 n7
     refine ⟨m',hm,i+1,σ7,H7,I7.unpinned,T.keep _ _ _ st5 fun b hb o e=>(I7.pin (b,o) (ydw _ (ydw _ (qbK hb e)))).1,fun b hb=>?_,w7⟩
     obtain ⟨o,e,d⟩:=T.obj _ _ st5 b hb
     exact (I7.pin (b,o) (ydw _ (ydw _ (qbK hb e)))).2.1
   cases f with
   | next=>obtain ⟨σ7,H7,I7,n7⟩:=q7;exact again I7 n7
   | cont=>obtain ⟨σ7,H7,I7,n7⟩:=q7;exact again I7 n7
   | brk=>obtain ⟨σ7,H7,I7,q7⟩:=q7;exact ⟨σ7,H7,I7.unpinned,q7⟩
   | ret v=>obtain ⟨x7,σ7,H7,I7,r7,q7⟩:=q7;exact ⟨x7,σ7,H7,I7.unpinned,r7,q7⟩
end
theorem qnv {K:PySem.W.Frag} {a:Addr} {xs:List V} {g:TG} {tb:TS} {D:qeY} {σ:St} {H:Hp} (Pv:Nat->St->Hp->Prop) (h0:Pv 0 σ H) (hl:∀i σ H,i<=xs.length->Pv i σ H->SqL K H a xs)
   (hs:∀i x σ H,xs[i]?=some x->Pv i σ H->g x σ H fun σ2 H2=>tb { D with nx:=Pv (i+1),ct:=Pv (i+1),bk:=D.nx } σ2 H2) (hd:∀σ H,Pv xs.length σ H->D.nx σ H) :
   ∃W:Nat->Nat->St->Hp->Prop,(∃m,W 0 m σ H)/\∀i m σ H,W i m σ H ->
     ((Itl K a).stop i H/\D.nx σ H)\/((Itl K a).go i H/\∃N:St->Hp->Prop,(∀σ' H',N σ' H'->∃m',m'<m/\W (i+1) m' σ' H')/\∀x H',(Itl K a).yld i H x H'->g x σ H' fun σ2 H2=>tb { D with nx:=N,ct:=N,bk:=D.nx } σ2 H2):=by
 refine ⟨fun i m σ H=>m=xs.length-i/\i<=xs.length/\Pv i σ H,⟨xs.length,by simp,ybv _,h0⟩,?_⟩
 rintro i m σ H ⟨rfl,hi,p⟩
 have q:=hl i σ H hi p
 by_cases hlt:i<xs.length
 . refine .inr ⟨⟨xs,xs[i],q,by simp [hlt]⟩,Pv (i+1),fun σ' H' p'=>⟨xs.length-(i+1),by omega,rfl,hlt,p'⟩,fun x H' y=>?_⟩
   obtain ⟨e,y⟩:=y
   subst e
   exact hs i x σ _ (y xs q) p
 . have e:i=xs.length:=by omega
   subst e
   exact .inl ⟨⟨xs,q,yax _⟩,hd σ H p⟩
theorem qlA {lo:Int} {n:Nat} {g:TG} {tb:TS} {D:qeY} {σ:St} {H:Hp} (Pv:Nat->St->Hp->Prop) (h0:Pv 0 σ H)
   (hs:∀i σ H,i<n->Pv i σ H->g (.int (lo+i)) σ H fun σ2 H2=>tb { D with nx:=Pv (i+1),ct:=Pv (i+1),bk:=D.nx } σ2 H2) (hd:∀σ H,Pv n σ H->D.nx σ H) :
   ∃W:Nat->Nat->St->Hp->Prop,(∃m,W 0 m σ H)/\∀i m σ H,W i m σ H ->
     ((Itr lo n).stop i H/\D.nx σ H)\/((Itr lo n).go i H/\∃N:St->Hp->Prop,(∀σ' H',N σ' H'->∃m',m'<m/\W (i+1) m' σ' H')/\∀x H',(Itr lo n).yld i H x H'->g x σ H' fun σ2 H2=>tb { D with nx:=N,ct:=N,bk:=D.nx } σ2 H2):=by
 refine ⟨fun i m σ H=>m=n-i/\i<=n/\Pv i σ H,⟨n,by simp,ybv _,h0⟩,?_⟩
 rintro i m σ H ⟨rfl,hi,p⟩
 by_cases hlt:i<n
 . refine .inr ⟨hlt,Pv (i+1),fun σ' H' p'=>⟨n-(i+1),by omega,rfl,hlt,p'⟩,fun x H' y=>?_⟩
   obtain ⟨e,y⟩:=y
   subst e y
   exact hs i σ _ hlt p
 . have e:i=n:=by omega
   subst e
   exact .inl ⟨yax _,hd σ H p⟩
end L2
namespace L2
open PySem PySem.Spec PyProof.Rows
abbrev R2:=V->V->Hp->VK->Prop
def OpR (X:Cx) (f:Value->Value->Sem Value) (r:R2):Prop :=
 ∀(pins:List (Addr×Obj)) (s:Shared) (σ:St) (H:Hp) (x y:V) (v u:Value) (Q:VK),Inv X pins σ H s->qbo x v->qbo y u->r x y H Q ->
   wpAny (model X.prog X.w) X.A (f v u) (EP X pins σ Q) X.xe s
def UnR (X:Cx) (f:Value->Sem Value) (r:V->Hp->VK->Prop):Prop :=
 ∀(pins:List (Addr×Obj)) (s:Shared) (σ:St) (H:Hp) (x:V) (v:Value) (Q:VK),Inv X pins σ H s->qbo x v->r x H Q ->
   wpAny (model X.prog X.w) X.A (f v) (EP X pins σ Q) X.xe s
def qcM (X:Cx) (f:Value) (r:List V->Hp->VK->Prop):Prop :=
 ∀(pins:List (Addr×Obj)) (s:Shared) (σ:St) (H:Hp) (xs:List V) (us:List Value) (Q:VK),Inv X pins σ H s->qa6 xs us->r xs H Q ->
   wpAny (model X.prog X.w) X.A (call f us) (EP X pins σ Q) X.xe s
def tOp (r:R2) (ta tb:TE):TE:=fun σ H Q=>ta σ H fun x H1=>tb σ H1 fun y H2=>r x y H2 Q
def tUn (r:V->Hp->VK->Prop) (ta:TE):TE:=fun σ H Q=>ta σ H fun x H1=>r x H1 Q
def rI (C:Int->Int->Prop) (g:Int->Int->V):R2:=fun x y H Q=>∃i j,x = .int i/\y = .int j/\C i j/\Q (g i j) H
def rI0 (g:Int->Int->V):R2:=fun x y H Q=>∃i j,x = .int i/\y = .int j/\Q (g i j) H
def rU (g:Int->V):V->Hp->VK->Prop:=fun x H Q=>∃i,x = .int i/\Q (g i) H
section
variable {X:Cx} {a b c:Expr} {ta tb tc:TE} {pos:Pos}
theorem qsC (ha:PE X a ta) (hb:PE X b tb) {pins:List (Addr×Obj)} {s:Shared} {σ:St} {H:Hp} {R:V->V->Hp->Prop} (I:Inv X pins σ H s)
   (h:ta σ H fun x H1=>tb σ H1 fun y H2=>R x y H2) {Q:Value->Shared->Prop} {f:Value->Value->Sem Value}
   (hf:∀v u s2 x y H2,Inv X pins σ H2 s2->qbo x v->qbo y u->R x y H2->wpAny (model X.prog X.w) X.A (f v u) Q X.xe s2) :
   wpAny (model X.prog X.w) X.A (eval a X.env) (fun v s₁=>wpAny (model X.prog X.w) X.A (eval b X.env) (fun u s₂=>wpAny (model X.prog X.w) X.A (f v u) Q X.xe s₂) X.xe s₁) X.xe s:=by
 refine thn (ha pins s σ H _ I h) fun v s1 ⟨x,H1,I1,r1,q1⟩=>?_
 refine thn (hb pins s1 σ H1 _ I1 q1) fun u s2 ⟨y,H2,I2,r2,q2⟩=>?_
 exact hf v u s2 x y H2 I2 r1 r2 q2
theorem qar {op:Operator} {r:R2} (ho:OpR X (binaryOp op) r) (ha:PE X a ta) (hb:PE X b tb):PE X (.BinOp a op b pos) (tOp r ta tb):=by
 intro pins s σ H Q I h
 exact wpAny_BinOp (qsC ha hb I h fun v u s2 x y H2 I2 rx ry q=>ho pins s2 σ H2 x y v u Q I2 rx ry q)
theorem qsW {op:UnaryOp} {r:V->Hp->VK->Prop} (ho:UnR X (unaryOp op) r) (ha:PE X a ta):PE X (.UnaryOp op a pos) (tUn r ta):=by
 intro pins s σ H Q I h
 exact UnaryOp_ (thn (ha pins s σ H _ I h) fun v s1 ⟨x,H1,I1,r1,q1⟩=>ho pins s1 σ H1 x v Q I1 r1 q1)
theorem opI {f:Value->Value->Sem Value} {C:Int->Int->Prop} {g:Int->Int->Int}
   (rule:∀(i j:Int) (t u:Tok) (s:Shared) (Q:Value->Shared->Prop) (E:Value->Shared->Prop),C i j->Q (.int (g i j) s.toks) { s with toks:=s.toks+1 }->wpAny (model X.prog X.w) X.A (f (.int i t) (.int j u)) Q E s) :
   OpR X f (rI C fun i j => .int (g i j)):=by
 intro pins s σ H x y v u Q I rx ry h
 obtain ⟨i,j,rfl,rfl,hc,q⟩:=h
 obtain ⟨t,rfl⟩:=rx
 obtain ⟨t',rfl⟩:=ry
 exact rule i j t t' s _ _ hc ⟨.int (g i j),H,I.tok _,⟨_,rfl⟩,q⟩
theorem qsE {f:Value->Value->Sem Value} {g:Int->Int->Int}
   (rule:∀(i j:Int) (t u:Tok) (s:Shared) (Q:Value->Shared->Prop) (E:Value->Shared->Prop),Q (.int (g i j) s.toks) { s with toks:=s.toks+1 }->wpAny (model X.prog X.w) X.A (f (.int i t) (.int j u)) Q E s) :
   OpR X f (rI0 fun i j => .int (g i j)):=by
 intro pins s σ H x y v u Q I rx ry h
 obtain ⟨i,j,rfl,rfl,q⟩:=h
 obtain ⟨t,rfl⟩:=rx
 obtain ⟨t',rfl⟩:=ry
 exact rule i j t t' s _ _ ⟨.int (g i j),H,I.tok _,⟨_,rfl⟩,q⟩
theorem qsw {f:Value->Value->Sem Value} {g:Int->Int->Bool}
   (rule:∀(i j:Int) (t u:Tok) (s:Shared) (Q:Value->Shared->Prop) (E:Value->Shared->Prop),Q (.bool (g i j)) s->wpAny (model X.prog X.w) X.A (f (.int i t) (.int j u)) Q E s) :
   OpR X f (rI0 fun i j => .bl (g i j)):=by
 intro pins s σ H x y v u Q I rx ry h
 obtain ⟨i,j,rfl,rfl,q⟩:=h
 obtain ⟨t,rfl⟩:=rx
 obtain ⟨t',rfl⟩:=ry
 exact rule i j t t' s _ _ ⟨.bl (g i j),H,I,rfl,q⟩
def qtK (i j:Int):Prop:=0<=j/\j<=1000000/\i.natAbs<2^64
def qsJ (i j:Int):Prop:=(-(2^64)<i/\i<2^64)\/(-(2^64)<j/\j<2^64)
theorem qsJ.ok {i j:Int} (h:qsJ i j):IntMulOk i j:=by
 rcases h with ⟨h1,h2⟩ | ⟨h1,h2⟩
 . exact .of_left (intBits_le_64 h1 h2)
 . exact .of_right (intBits_le_64 h1 h2)
theorem qjO (k:Nat):(0:Int)<=2^k:=by
 rw [two_pow_cast]
 exact Int.natCast_nonneg _
theorem qby:OpR X (binaryOp .Add) (rI0 fun i j => .int (i+j)):=qsE fun _ _ _ _ _ _ _ q=>add_int q
theorem qle:OpR X (binaryOp .Sub) (rI0 fun i j => .int (i-j)):=qsE fun _ _ _ _ _ _ _ q=>sub_int q
theorem qcQ:OpR X (binaryOp .Mult) (rI qsJ fun i j => .int (i*j)):=opI fun _ _ _ _ _ _ _ hc q=>mul_int q hc.ok
theorem qbf:OpR X (binaryOp .Mod) (rI (fun _ j=>0<j) fun i j => .int (i%j)):=opI fun i j _ _ _ _ _ hc q=>by
 have h1:(0:Int)<j:=hc
 exact mod_int' (by omega) (by rw [Int.fmod_eq_emod_of_nonneg i (by omega)];exact q)
theorem qoP:OpR X (binaryOp .LShift) (rI qtK fun i j => .int (i*2^j.toNat)):=opI fun _ _ _ _ _ _ _ hc q=>lshift_int_small hc.1 hc.2.1 hc.2.2 q
theorem qom:OpR X (binaryOp .RShift) (rI (fun _ j=>0<=j) fun i j => .int (i/2^j.toNat)):=opI fun i j _ _ _ _ _ hc q =>
 rshift_int hc (by rw [ydx i (qjO _)];exact q)
theorem qkv:OpR X (binaryOp .BitAnd) (rI0 fun i j => .int (Builtin.bitAnd i j)):=qsE fun _ _ _ _ _ _ _ q=>and_int q
theorem qs6:OpR X (binaryOp .BitOr) (rI0 fun i j => .int (Builtin.bitOr i j)):=qsE fun _ _ _ _ _ _ _ q=>or_int q
theorem unI {f:Value->Sem Value} {g:Int->Int}
   (rule:∀(i:Int) (t:Tok) (s:Shared) (Q:Value->Shared->Prop) (E:Value->Shared->Prop),Q (.int (g i) s.toks) { s with toks:=s.toks+1 }->wpAny (model X.prog X.w) X.A (f (.int i t)) Q E s) :
   UnR X f (rU fun i => .int (g i)):=by
 intro pins s σ H x v Q I rx h
 obtain ⟨i,rfl,q⟩:=h
 obtain ⟨t,rfl⟩:=rx
 exact rule i t s _ _ ⟨.int (g i),H,I.tok _,⟨_,rfl⟩,q⟩
theorem qrf:UnR X (unaryOp .USub) (rU fun i => .int (-i)):=unI fun _ _ _ _ _ q=>neg_int q
end
def qm4:V->V->Bool
 | .non,.non=>true | .non,.int _=>true | .int _,.non=>true | .non,.bl _=>true | .bl _,.non=>true | .non,.str _=>true | .str _,.non=>true
 | .int _,.int _=>true | .bl _,.bl _=>true | .str _,.str _=>true | .byt _,.byt _=>true
 | .int _,.str _=>true | .str _,.int _=>true | .bl _,.str _=>true | .str _,.bl _=>true
 | _,_=>false
def rEq:R2:=fun x y H Q=>qm4 x y=true/\Q (.bl (decide (x=y))) H
def rNe:R2:=fun x y H Q=>qm4 x y=true/\Q (.bl (!decide (x=y))) H
theorem qli {i j:Int}:decide (V.int i=V.int j)=(i==j):=by
 rw [yav]
 simp
theorem qoJ {i j:Bool}:decide (V.bl i=V.bl j)=(i==j):=by
 rw [yav]
 simp
theorem qku {i j:Str}:decide (V.str i=V.str j)=(i==j):=by
 rw [yav]
 simp
theorem qlH {i j:Array UInt8}:decide (V.byt i=V.byt j)=(i.toList==j.toList):=by
 rw [yav]
 cases i
 cases j
 simp
section
variable {X:Cx} {a b c:Expr} {ta tb tc:TE} {pos:Pos}
theorem qaN {pins:List (Addr×Obj)} {σ:St} {H:Hp} {s:Shared} {Q:VK} {k k':Bool} (I:Inv X pins σ H s) (q:Q (.bl k) H) (e:k=k'):EP X pins σ Q (.bool k') s:=by
 subst e
 exact ⟨.bl k,H,I,rfl,q⟩
theorem qte:OpR X (compareOp .Eq) rEq:=by
 intro pins s σ H x y v u Q I rx ry h
 obtain ⟨hs,q⟩:=h
 cases x with
 | non =>
   cases rx
   cases y with
   | non=>cases ry;exact PySem.EqNone.eq_none_none (qaN I q (by simp))
   | bl j=>cases ry;exact PySem.EqNone.eq_none_bool (qaN I q (by simp))
   | int j=>obtain ⟨t',rfl⟩:=ry;exact PySem.EqNone.eq_none_int (qaN I q (by simp))
   | str j=>obtain ⟨t',rfl⟩:=ry;exact PySem.EqNone.eq_none_str (qaN I q (by simp))
   | _=>exact absurd (show false=true from hs) ydu
 | bl i =>
   cases rx
   cases y with
   | non=>cases ry;exact PySem.EqNone.eq_bool_none (qaN I q (by simp))
   | bl j=>cases ry;exact eq_bool (qaN I q qoJ)
   | str j=>obtain ⟨t',rfl⟩:=ry;exact PySem.EqMixed.eq_bool_str (qaN I q (by simp))
   | _=>exact absurd (show false=true from hs) ydu
 | int i =>
   obtain ⟨t,rfl⟩:=rx
   cases y with
   | non=>cases ry;exact PySem.EqNone.eq_int_none (qaN I q (by simp))
   | int j=>obtain ⟨t',rfl⟩:=ry;exact eq_int (qaN I q qli)
   | str j=>obtain ⟨t',rfl⟩:=ry;exact PySem.EqMixed.eq_int_str (qaN I q (by simp))
   | _=>exact absurd (show false=true from hs) ydu
 | str i =>
   obtain ⟨t,rfl⟩:=rx
   cases y with
   | non=>cases ry;exact PySem.EqNone.eq_str_none (qaN I q (by simp))
   | bl j=>cases ry;exact PySem.EqMixed.eq_str_bool (qaN I q (by simp))
   | int j=>obtain ⟨t',rfl⟩:=ry;exact PySem.EqMixed.eq_str_int (qaN I q (by simp))
   | str j=>obtain ⟨t',rfl⟩:=ry;exact eq_str (qaN I q qku)
   | _=>exact absurd (show false=true from hs) ydu
 | byt i =>
   obtain ⟨t,rfl⟩:=rx
   cases y with
   | byt j=>obtain ⟨t',rfl⟩:=ry;exact PySem.W.eq_bytes (qaN I q qlH)
   | _=>exact absurd (show false=true from hs) ydu
 | _=>cases y<;>exact absurd (show false=true from hs) ydu
theorem qsN:OpR X (compareOp .NotEq) rNe:=by
 intro pins s σ H x y v u Q I rx ry h
 obtain ⟨hs,q⟩:=h
 cases x with
 | non =>
   cases rx
   cases y with
   | non=>cases ry;exact PySem.EqNone.ne_none_none (qaN I q (by simp))
   | bl j=>cases ry;exact PySem.EqNone.ne_none_bool (qaN I q (by simp))
   | int j=>obtain ⟨t',rfl⟩:=ry;exact PySem.EqNone.ne_none_int (qaN I q (by simp))
   | str j=>obtain ⟨t',rfl⟩:=ry;exact PySem.EqNone.ne_none_str (qaN I q (by simp))
   | _=>exact absurd (show false=true from hs) ydu
 | bl i =>
   cases rx
   cases y with
   | non=>cases ry;exact PySem.EqNone.ne_bool_none (qaN I q (by simp))
   | bl j=>cases ry;exact ne_bool (qaN I q (congrArg not qoJ))
   | str j=>obtain ⟨t',rfl⟩:=ry;exact PySem.EqMixed.ne_bool_str (qaN I q (by simp))
   | _=>exact absurd (show false=true from hs) ydu
 | int i =>
   obtain ⟨t,rfl⟩:=rx
   cases y with
   | non=>cases ry;exact PySem.EqNone.ne_int_none (qaN I q (by simp))
   | int j=>obtain ⟨t',rfl⟩:=ry;exact ne_int (qaN I q (congrArg not qli))
   | str j=>obtain ⟨t',rfl⟩:=ry;exact PySem.EqMixed.ne_int_str (qaN I q (by simp))
   | _=>exact absurd (show false=true from hs) ydu
 | str i =>
   obtain ⟨t,rfl⟩:=rx
   cases y with
   | non=>cases ry;exact PySem.EqNone.ne_str_none (qaN I q (by simp))
   | bl j=>cases ry;exact PySem.EqMixed.ne_str_bool (qaN I q (by simp))
   | int j=>obtain ⟨t',rfl⟩:=ry;exact PySem.EqMixed.ne_str_int (qaN I q (by simp))
   | str j=>obtain ⟨t',rfl⟩:=ry;exact ne_str (qaN I q (congrArg not qku))
   | _=>exact absurd (show false=true from hs) ydu
 | byt i =>
   obtain ⟨t,rfl⟩:=rx
   cases y with
   | byt j=>obtain ⟨t',rfl⟩:=ry;exact PySem.W.ne_bytes (qaN I q (congrArg not qlH))
   | _=>exact absurd (show false=true from hs) ydu
 | _=>cases y<;>exact absurd (show false=true from hs) ydu
theorem qm2:OpR X (compareOp .Lt) (rI0 fun i j => .bl (decide (i<j))):=qsw fun _ _ _ _ _ _ _ q=>lt_int q
theorem qn7:OpR X (compareOp .LtE) (rI0 fun i j => .bl (decide (i<=j))):=qsw fun _ _ _ _ _ _ _ q=>le_int q
theorem qjP:OpR X (compareOp .Gt) (rI0 fun i j => .bl (decide (j<i))):=qsw fun _ _ _ _ _ _ _ q=>gt_int q
theorem qsU:OpR X (compareOp .GtE) (rI0 fun i j => .bl (decide (j<=i))):=qsw fun _ _ _ _ _ _ _ q=>ge_int q
theorem OpR.or {f:Value->Value->Sem Value} {r r':R2} (h:OpR X f r) (h':OpR X f r'):OpR X f (fun x y H Q=>r x y H Q\/r' x y H Q):=by
 intro pins s σ H x y v u Q I rx ry q
 rcases q with q | q
 . exact h pins s σ H x y v u Q I rx ry q
 . exact h' pins s σ H x y v u Q I rx ry q
theorem qat (b:Expr) {op:CmpOp} (h:op ≠ .In:=by decide) (h2:op ≠ .NotIn:=by decide):behindInMarks op b=false:=by
 have e1:(op==CmpOp.In)=false:=by cases op<;>first | rfl | exact absurd rfl h
 have e2:(op==CmpOp.NotIn)=false:=by cases op<;>first | rfl | exact absurd rfl h2
 cases b<;>simp [behindInMarks,e1,e2]
theorem qgE {op:CmpOp} {r:R2} (ho:OpR X (compareOp op) r) (ha:PE X a ta) (hb:PE X b tb) (hm:behindInMarks op b=false):PE X (.Compare a [op] [b] pos) (tOp r ta tb):=by
 intro pins s σ H Q I h
 exact wpAny_Compare1 (qsC ha hb I h fun v u s2 x y H2 I2 rx ry q=>ho pins s2 σ H2 x y v u Q I2 rx ry q) hm
def qrH (t:TE):TT:=fun σ H Q=>t σ H fun x H'=>∃k,x = .bl k/\Q k H'
theorem qap {op:CmpOp} {r:R2} (ho:OpR X (compareOp op) r) (ha:PE X a ta) (hb:PE X b tb) (hm:behindInMarks op b=false):PT X (.Compare a [op] [b] pos) (qrH (tOp r ta tb)):=by
 intro pins s σ H Q I h
 refine wpAny_isTrue_Compare1 (thn (ha pins s σ H _ I h) fun v s1 ⟨x,H1,I1,r1,q1⟩=>thn (hb pins s1 σ H1 _ I1 q1) fun u s2 ⟨y,H2,I2,r2,q2⟩ =>
   thn (ho pins s2 σ H2 x y v u _ I2 r1 r2 q2) fun c s3 ⟨z,H3,I3,r3,k,e,q3⟩=>?_) hm
 subst e
 cases r3
 exact wpAny_truthy_bool ⟨H3,I3,q3⟩
def qos (r r':R2) (ta tb tc:TE):TE:=fun σ H Q=>ta σ H fun x H1=>tb σ H1 fun y H2=>r x y H2 fun z H3=>∃k,z = .bl k /\
 (if k=true then tc σ H3 fun w' H4=>r' y w' H4 Q else Q (.bl false) H3)
theorem qgz {op op':CmpOp} {r r':R2} (ho:OpR X (compareOp op) r) (ho':OpR X (compareOp op') r') (ha:PE X a ta) (hb:PE X b tb) (hc:PE X c tc)
   (hm:lastMarks [op,op'] [b,c]=false:=by with_unfolding_all rfl):PE X (.Compare a [op,op'] [b,c] pos) (qos r r' ta tb tc):=by
 intro pins s σ H Q I h
 refine Compare_chain (thn (ha pins s σ H _ I h) fun v s1 ⟨x,H1,I1,r1,q1⟩=>chain_link (thn (hb pins s1 σ H1 _ I1 q1) fun u s2 ⟨y,H2,I2,r2,q2⟩ =>
   thn (ho pins s2 σ H2 x y v u _ I2 r1 r2 q2) fun d s3 ⟨z,H3,I3,r3,k,e,q3⟩=>?_)) hm
 subst e
 cases r3
 refine wpAny_truthy_bool ?_
 cases k with
 | false=>exact ite_ff ⟨.bl false,H3,I3,rfl,q3⟩
 | true=>exact ite_tt (chain_last (thn (hc pins s3 σ H3 _ I3 q3) fun w' s4 ⟨z',H4,I4,r4,q4⟩=>ho' pins s4 σ H4 y z' u w' Q I4 r2 r4 q4))
theorem qf5:(sizeLine:Nat)<2^63:=by rw [sizeLine_eq];decide
theorem qaY:OpR X (binaryOp .Add) (fun x y H Q=>∃i j,x = .str i/\y = .str j/\i.length+j.length<=sizeLine/\Q (.str (i++j)) H):=by
 intro pins s σ H x y v u Q I rx ry h
 obtain ⟨i,j,rfl,rfl,hz,q⟩:=h
 obtain ⟨t,rfl⟩:=rx
 obtain ⟨t',rfl⟩:=ry
 refine PySem.P.add_str ?_
 by_cases e1:i.length=0
 . rw [if_pos (by simpa using e1)]
   have h0:i.cps = #[]:=ydy (by simpa [Str.length] using e1)
   have e:i++j=j:=by show Str.append i j=j;cases j;simp [Str.append,h0]
   exact ⟨.str (i++j),H,I,⟨_,by rw [e]⟩,q⟩
 . rw [if_neg (by simpa using e1)]
   by_cases e2:j.length=0
   . rw [if_pos (by simpa using e2)]
     have h0:j.cps = #[]:=ydy (by simpa [Str.length] using e2)
     have e:i++j=i:=by show Str.append i j=i;cases i;simp [Str.append,h0]
     exact ⟨.str (i++j),H,I,⟨_,by rw [e]⟩,q⟩
   . rw [if_neg (by simpa using e2)]
     exact ⟨by rw [Str.length_append];omega,.str (i++j),H,I.tok _,I.ts _,q⟩
def qnz (b:Expr):Prop:=∀o i,subscripted b false o i=operate [o,i] (getItem o i)
theorem qdp (ha:PE X a ta) (hb:PE X b tb) (hs:qnz b) :
   PE X (.Subscript a b pos) (tOp (fun x y H Q=>∃z i c,x = .str z/\y = .int i/\0<=i/\i<2^63/\i<z.length/\z.cps[i.toNat]?=some c/\Q (.str ⟨#[c]⟩) H) ta tb):=by
 intro pins s σ H Q I h
 refine Subscript_ (qsC ha hb I h fun v u s2 x y H2 I2 rx ry q=>?_)
 obtain ⟨z,i,c,rfl,rfl,h0,h63,h1,hc,q⟩:=q
 obtain ⟨t,rfl⟩:=rx
 obtain ⟨t',rfl⟩:=ry
 have e:seqIndex? i z.length=some i.toNat:=PySem.StrLaws.seqIndex_nonneg h0 h1
 exact tail_any (typeIs_str s2 z t) slot_str_getitem.lookup (getItem_str (c:=c) (by
   have e1:decide (i < -(2^63:Int))=false:=decide_eq_false (by omega)
   have e2:decide (i≥2^63)=false:=decide_eq_false (by omega)
   rw [e1,e2]<;>rfl) (by rw [e];exact hc) ⟨.str ⟨#[c]⟩,H2,I2.tok _,I2.ts _,q⟩) (hs _ _)
theorem qfH {x:V} {us:List Value} (r:qa6 [x] us):∃u,us=[u]/\qbo x u:=by
 cases r with
 | cons r1 r2=>cases r2;exact ⟨_,rfl,r1⟩
theorem qj4 {x y:V} {us:List Value} (r:qa6 [x,y] us):∃u w',us=[u,w']/\qbo x u/\qbo y w':=by
 cases r with
 | cons r1 r2 =>
   cases r2 with
   | cons r3 r4=>cases r4;exact ⟨_,_,rfl,r1,r3⟩
theorem qlF:qcM X (.type "int") (fun xs H Q=>(∃i,xs=[.int i]/\Q (.int i) H)\/∃k,xs=[.bl k]/\Q (.int (if k then 1 else 0)) H):=by
 intro pins s σ H xs us Q I r h
 rcases h with ⟨i,rfl,q⟩ | ⟨k,rfl,q⟩
 . obtain ⟨u,rfl,t,rfl⟩:=qfH r
   exact call_int_int ⟨.int i,H,I,⟨_,rfl⟩,q⟩
 . obtain ⟨u,rfl,r1⟩:=qfH r
   cases r1
   exact call_int_bool ⟨.int (if k then 1 else 0),H,I.tok _,⟨_,rfl⟩,q⟩
end
end L2
namespace L2
open PySem PySem.Spec PyProof.Rows
structure qpc (h:Heap) (x dx C:Addr) (mA:Str->Option Value):Prop where
 obj:h.get? x=some (PySem.W.instObj C dx)
 ns:h.Ns1 dx mA
 ne:dx≠x
theorem qlp {h:Heap} {dx:Addr} {mA:Str->Option Value} (n:h.Ns1 dx mA):∃od,h.get? dx=some od/\∀name,PySem.W.lookIn name od=some (mA name):=by
 obtain ⟨o,es,ep,ho,hd,hk,_,hm⟩:=n
 refine ⟨o,ho,fun name=>?_⟩
 have e:=hm name
 unfold nsFind findBy at e
 rw [<-Array.find?_toList] at e
 unfold PySem.W.lookIn
 rw [hd]
 dsimp only
 split
 . rename_i y q
   rw [q] at e
   exact congrArg some e
 . rename_i q
   rw [q] at e
   have a:es.toList.any (·.refKey)=false:=by
     rw [yaz]
     intro y hy
     obtain ⟨z,t,hkey⟩:=hk y (ydz.mp hy)
     simp [DictEntry.refKey,hkey]
   have a':¬es.toList.any (·.refKey)=true:=by rw [a];exact ydu
   rw [if_neg a']
   exact congrArg some e
theorem qpc.look {h:Heap} {x dx C:Addr} {mA:Str->Option Value} (I:qpc h x dx C mA):∃od,PySem.W.InstAt h x (PySem.W.instObj C dx) C (some od)/\∀name,PySem.W.lookIn name od=some (mA name) :=
 let ⟨od,ho,hl⟩:=qlp I.ns
 ⟨od,⟨I.obj,rfl,rfl,ho⟩,hl⟩
section
variable {prog:Program} {w:World} {A:Around} {E:Value->Shared->Prop} {s:Shared} {K:PySem.W.Frag} {x dx C f:Addr} {mA:Str->Option Value} {name:Str} {v:Value}
theorem qqg {expr:Bool} {Q:Value->Shared->Prop} (X:K.In s.heap) (I:qpc s.heap x dx C mA) (hg:PySem.W.plainGet K C name=true) (hh:PySem.W.hasDictIn K C=true)
   (ha:PySem.W.findIn K (.ref C) name=some none) (hv:mA name=some v) (hv':PySem.W.handedIn v=true) (h:Q v { s with toks:=s.toks+1 }) :
   wpAny (model prog w) A (getAttr (.ref x) name expr) Q E s:=by
 obtain ⟨od,J,hl⟩:=I.look
 exact PySem.W.get_value X J (PySem.W.plainGet_of hg).1 (PySem.W.findObj_own hh ha rfl (by rw [hl,hv])) hv' h
theorem qnh {pl:Sem Bool} {Q:Value×List Value->Shared->Prop} (X:K.In s.heap) (I:qpc s.heap x dx C mA) (hg:PySem.W.plainGet K C name=true)
   (hf:PySem.W.findIn K (.ref C) name=some (some (.ref f))) (ht:PySem.W.isFn K (.ref f)=true) (hv:mA name=none) (h:Q (.ref f,[.ref x]) s) :
   wpAny (model prog w) A (getMethod (.ref x) name pl) Q E s:=by
 obtain ⟨od,J,hl⟩:=I.look
 exact PySem.W.method_fn X J (PySem.W.plainGet_of hg).1 (PySem.W.plainGet_of hg).2 hf (beq_iff_eq.mp ht) (by show (PySem.W.lookIn name od).map (·.isSome)=some false;rw [hl,hv];rfl) h
theorem qo9 {ns:List Str} {Q:Unit->Shared->Prop} (X:K.In s.heap) (I:qpc s.heap x dx C mA)
   (hs:PySem.W.findIn K (.ref C) "__setattr__" = some (some (.builtin "object.__setattr__"))) (hp:PySem.W.plainOver K C=true) (ht:PySem.W.takerIn K C name=some none) (hh:PySem.W.hasDictIn K C=true)
   (hw:PySem.Within mA ns) (hsz:ns.length<=sizeLine)
   (h:∀h',qpc h' x dx C (fun y=>if y=name then some v else mA y)->Heap.SameBut dx s.heap h'->Q () { s with heap:=h',toks:=s.toks+2 }) :
   wpAny (model prog w) A (setAttr (.ref x) name v) Q E s:=by
 obtain ⟨od,J,hl⟩:=I.look
 refine PySem.W.set_plain X J hs (PySem.W.osa_open (s:={ s with toks:=s.toks+1 }) (r:=none) X J hp ht fun b=>?_)
 obtain ⟨cd,hc,hd'⟩:=PySem.W.any_some hh
 have hx:s.heap.get? x=some ⟨.ref C,some dx,.plain,#[]⟩:=I.obj
 refine wpAny_bind (wpAny_pure (wpAny_bind (wpAny_bind (wpAny_loadPart hx (wpAny_bind (PySem.W.Looks.here (s:={ s with toks:=s.toks+1 }) (PySem.W.looks_clsIn X hc) ?_))))))
 rw [hd']
 refine wpAny_pure (a:=some dx) (wpAny_bind (wpAny_pure (wpAny_bind ?_)))
 refine wpAny_nsSet1 (s:={ s with toks:=s.toks+1 }) I.ns fun h' hn2 hs2=>?_
 obtain ⟨oD,esD,epD,hoD,hdD,hcD⟩:=hn2.count (PySem.Within.cons name v hw)
 refine wpAny_bind (wpAny_lookBehind hoD (by rw [hdD];exact pastItsLine_dict (ybt hcD (by rw [yea];omega))) ?_)
 exact wpAny_pure (h _ ⟨(hs2.2 _ (Ne.symm I.ne)).trans I.obj,hn2,I.ne⟩ hs2)
theorem qnT {R:Result->Shared->Prop} {vs:List Value} {kw:List (Str×Value)} (X:K.In s.heap) (hm:PySem.W.makesIn K C=true)
   (hi:PySem.W.findIn K (.ref C) "__init__" = some (some (.ref f))) (hf:PySem.W.typeIn K (.ref f)=some (.type "function"))
   (h:codeAny (model prog w) (A.under (.builtin "type.__call__" ⟨.ref C::vs,kw⟩)) (.call (.ref f) ⟨.ref (s.heap.objs.size+1)::vs,kw⟩) (PySem.W.InitBack (s.heap.objs.size+1) R)
     { s with heap:=(s.heap.push PySem.W.emptyDict).push (PySem.W.instObj C s.heap.objs.size) }) :
   codeAny (model prog w) A (.call (.ref C) ⟨vs,kw⟩) R s:=by
 obtain ⟨hh,g,d,t,os⟩:=s
 exact PySem.W.make_core (PySem.W.makes_of X hm) (PySem.W.looks_findIn X hi) (fun self=>PySem.W.bind_fn X self hf) (.inl rfl) h
end
def qgG (f:Str) (v:V):List (Str×V)->List (Str×V)
 | []=>[(f,v)]
 | (g,x)::r=>if g=f then (g,v)::r else (g,x)::qgG f v r
theorem qe1 (f g:Str) (v:V):∀fs:List (Str×V),(qgG f v fs).lookup g=if g=f then some v else fs.lookup g
 | []=>by
   show List.lookup g [(f,v)]=_
   by_cases h:g=f
   . have hb:(g==f)=true:=beq_iff_eq.mpr h
     simp only [List.lookup,hb,if_pos h]
   . have hb:(g==f)=false:=beq_eq_false_iff_ne.mpr h
     simp only [List.lookup,hb,if_neg h]
 | (k,x)::r=>by
   have ih:=qe1 f g v r
   rw [show qgG f v ((k,x)::r)=(if k=f then (k,v)::r else (k,x)::qgG f v r) from rfl]
   by_cases hk:k=f
   . rw [if_pos hk]
     by_cases h:g=k
     . have hb:(g==k)=true:=beq_iff_eq.mpr h
       simp only [List.lookup,hb,if_pos (h.trans hk)]
     . have hb:(g==k)=false:=beq_eq_false_iff_ne.mpr h
       simp only [List.lookup,hb,if_neg (fun e:g=f=>h (e.trans hk.symm))]
   . rw [if_neg hk]
     by_cases h:g=k
     . have hb:(g==k)=true:=beq_iff_eq.mpr h
       simp only [List.lookup,hb,if_neg (fun e:g=f=>hk (h.symm.trans e))]
     . have hb:(g==k)=false:=beq_eq_false_iff_ne.mpr h
       simp only [List.lookup,hb]
       exact ih
theorem qe0 (f:Str) (v:V):∀fs:List (Str×V),f∈(qgG f v fs).map (·.1)/\∀g,g∈fs.map (·.1)->g∈(qgG f v fs).map (·.1)
 | []=>⟨by simp [qgG],fun g h=>by simp at h⟩
 | (k,x)::r=>by
   obtain ⟨i1,i2⟩:=qe0 f v r
   rw [show qgG f v ((k,x)::r)=(if k=f then (k,v)::r else (k,x)::qgG f v r) from rfl]
   by_cases hk:k=f
   . rw [if_pos hk]
     subst hk
     exact ⟨by simp,fun g h=>by simpa using h⟩
   . rw [if_neg hk]
     refine ⟨?_,fun g h=>?_⟩
     . rw [ych]
       exact ybe _ i1
     . rw [ych] at h ⊢
       rcases ybd.mp h with e | e
       . exact ybd.mpr (.inl e)
       . exact ybe _ (i2 g e)
theorem qfk (f:Str) (v:V):∀fs:List (Str×V),(qgG f v fs).length<=fs.length+1
 | []=>by simp [qgG]
 | (k,x)::r=>by
   have ih:=qfk f v r
   rw [show qgG f v ((k,x)::r)=(if k=f then (k,v)::r else (k,x)::qgG f v r) from rfl]
   by_cases hk:k=f
   . rw [if_pos hk,yea,yea];omega
   . rw [if_neg hk,yea,yea];omega
theorem qhH.some_of {v:V} {o:Option Value} (r:qhH (some v) o):∃u,o=some u/\qbo v u:=by
 cases o with
 | none=>exact (show False from r).elim
 | some u=>exact ⟨u,rfl,r⟩
theorem qhH.none_of {o:Option Value} (r:qhH none o):o=none:=by
 cases o with
 | none=>rfl
 | some u=>exact (show False from r).elim
theorem qkK {v:V} {u:Value} (r:qbo v u):PySem.W.handedIn u=true:=by
 cases v with
 | non=>cases (show u=Value.none from r);rfl
 | bl b=>cases (show u=Value.bool b from r);rfl
 | int i=>obtain ⟨t,e⟩:=(show ∃t,u=Value.int i t from r);cases e;rfl
 | str x=>obtain ⟨t,e⟩:=(show ∃t,u=Value.str x (t+1) from r);cases e;rfl
 | byt b=>obtain ⟨t,e⟩:=(show ∃t,u=Value.bytes b t from r);cases e;rfl
 | flt b=>obtain ⟨t,e⟩:=(show ∃t,u=Value.float b t from r);cases e;rfl
 | ref a=>cases (show u=Value.ref a from r);rfl
 | ty n=>cases (show u=Value.type n from r);rfl
section
variable {P:Program} {w:World} {H H':Hp} {h h':Heap} {a C dx:Addr} {fs fs':List (Str×V)}
theorem qgN (hok:HOk P w H h) (e:H a=some (.ins C dx fs)):∃mA,qpc h a dx C mA/\(∀f,qhH (fs.lookup f) (mA f))/\PySem.Within mA (fs.map (·.1))/\fs.length<=1000/\H dx=some (.own a):=by
 obtain ⟨d,z,ne,ob,mA,n,r,q⟩:=(show qbs P w H h a (.ins C dx fs) from hok a _ e)
 exact ⟨mA,⟨ob,n,ne⟩,r,q,z,d⟩
end
structure Cls (K:PySem.W.Frag) (C:Addr):Prop where
 pg:PySem.W.plainGet K C Str.empty=true
 hd:PySem.W.hasDictIn K C=true
 po:PySem.W.plainOver K C=true
 sa:PySem.W.findIn K (.ref C) "__setattr__" = some (some (.builtin "object.__setattr__"))
theorem Cls.get {K:PySem.W.Frag} {C:Addr} (c:Cls K C) (f:Str):PySem.W.plainGet K C f=true:=c.pg
def qdB (K:PySem.W.Frag) (C:Addr) (f:Str):Prop:=PySem.W.findIn K (.ref C) f=some none
theorem qdB.taker {K:PySem.W.Frag} {C:Addr} {f:Str} (n:qdB K C f):PySem.W.takerIn K C f=some none:=by
 unfold PySem.W.takerIn
 rw [show PySem.W.findIn K (.ref C) f=some none from n]
 rfl
structure Con (K:PySem.W.Frag) (C:Addr) (f:Str) (v:V) (u:Value):Prop where
 at_:PySem.W.findIn K (.ref C) f=some (some u)
 rel:qbo v u
 get:PySem.W.specialIn K u "__get__" = some none
 cp:PySem.W.copiedNames.contains f=false
structure qrv (K:PySem.W.Frag) (C:Addr) (m:Str) (f:Addr):Prop where
 at_:PySem.W.findIn K (.ref C) m=some (some (.ref f))
 fn:PySem.W.isFn K (.ref f)=true
 kp:PySem.W.keepIn K (.ref f)=true
section
variable {X:Cx} {pins:List (Addr×Obj)} {σ:St} {H:Hp} {s:Shared} {a C dx:Addr} {fs:List (Str×V)} {f:Str} {v:V} {A:Around} {E:Value->Shared->Prop}
theorem qjX {b:Bool} {Q:Value->Shared->Prop} (I:Inv X pins σ H s) (e:H a=some (.ins C dx fs)) (c:Cls X.K C) (n:qdB X.K C f) (l:fs.lookup f=some v)
   (h:∀u s',Inv X pins σ H s'->qbo v u->Q u s'):wpAny (model X.prog X.w) A (getAttr (.ref a) f b) Q E s:=by
 obtain ⟨mA,O,r,_,_,_⟩:=qgN I.hok e
 obtain ⟨u,hu,ru⟩:=qhH.some_of (v:=v) (o:=mA f) (by rw [<-l];exact r f)
 exact qqg I.kIn O (c.get f) c.hd n hu (qkK ru) (h u _ (I.tok _) ru)
theorem qf0 {m:Str} {g:Addr} {pl:Sem Bool} {Q:Value×List Value->Shared->Prop} (I:Inv X pins σ H s) (e:H a=some (.ins C dx fs)) (c:Cls X.K C) (k:qrv X.K C m g) (l:fs.lookup m=none)
   (h:Q (.ref g,[.ref a]) s):wpAny (model X.prog X.w) A (getMethod (.ref a) m pl) Q E s:=by
 obtain ⟨mA,O,r,_,_,_⟩:=qgN I.hok e
 have hn:mA m=none:=qhH.none_of (by rw [<-l];exact r m)
 exact qnh I.kIn O (c.get m) k.at_ k.fn hn h
theorem qj6 {y:V} {u:Value} {Q:Unit->Shared->Prop} (I:Inv X pins σ H s) (e:H a=some (.ins C dx fs)) (c:Cls X.K C) (n:qdB X.K C f) (hl:fs.length<1000) (ry:qbo y u)
   (h:∀s',Inv X pins σ (upd H a (.ins C dx (qgG f y fs))) s'->Q () s'):wpAny (model X.prog X.w) A (setAttr (.ref a) f u) Q E s:=by
 obtain ⟨mA,O,r,wi,_,ho⟩:=qgN I.hok e
 have hz:(fs.map (·.1)).length<=sizeLine:=by rw [ycj,sizeLine_eq];omega
 refine qo9 I.kIn O c.sa c.po n.taker c.hd wi hz fun h' O' sb=>h _ ?_
 have hd:∃o,h'.get? dx=some o:=let ⟨o,_,_,e',_⟩:=O'.ns;⟨o,e'⟩
 refine I.write (x:=a) (e:=dx) (by rw [e];exact True.intro) (.inr ho) (fun b q hb z=>(sb.2 b hb).trans z) hd ?_
 refine ⟨by rw [qaq O.ne];exact ho,?_,O.ne,O'.obj,_,O'.ns,fun g=>?_,fun g hg=>?_⟩
 . have:=qfk f y fs;omega
 . show qhH ((qgG f y fs).lookup g) (if g=f then some u else mA g)
   rw [qe1]
   by_cases q:g=f
   . rw [if_pos q,if_pos q];exact ry
   . rw [if_neg q,if_neg q];exact r g
 . by_cases q:g=f
   . rw [q];exact (qe0 f y fs).1
   . refine (qe0 f y fs).2 g (wi g fun z=>hg ?_)
     show (if g=f then some u else mA g)=none
     rw [if_neg q];exact z
theorem Inv.made (I:Inv X pins σ H s):Inv X pins σ (upd (upd H s.heap.objs.size (.own (s.heap.objs.size+1))) (s.heap.objs.size+1) (.ins C s.heap.objs.size []))
   { s with heap:=(s.heap.push PySem.W.emptyDict).push (PySem.W.instObj C s.heap.objs.size) }:=by
 have e1:(s.heap.push PySem.W.emptyDict).get? s.heap.objs.size=some PySem.W.emptyDict:=ycq s.heap rfl
 have e2:((s.heap.push PySem.W.emptyDict).push (PySem.W.instObj C s.heap.objs.size)).get? (s.heap.objs.size+1)=some (PySem.W.instObj C s.heap.objs.size):=by
   have:=ycq (s.heap.push PySem.W.emptyDict) (o:=PySem.W.instObj C s.heap.objs.size) rfl
   rwa [yct] at this
 have e3:(s.heap.push PySem.W.emptyDict).Ns s.heap.objs.size (fun _=>none):=⟨PySem.W.emptyDict,#[],_,e1,rfl,(fun e he=>absurd he (by simp)),fun _=>rfl⟩
 have I1:=I.laid (a:=s.heap.objs.size) (o := .own (s.heap.objs.size+1)) (h':=s.heap.push PySem.W.emptyDict) (t':=s.toks) (fun b u q=>ycr _ q) (yax _) ⟨_,e1⟩
 refine I1.laid (a:=s.heap.objs.size+1) (o := .ins C s.heap.objs.size []) (t':=s.toks) (fun b u q=>ycr _ q) (ydh (yct _ _)) ?_
 have ne:s.heap.objs.size≠s.heap.objs.size+1:=ycu (ybx _)
 refine ⟨by rw [qaq ne,qai],ybv _,ne,e2,fun _=>none,(Heap.Ns1.of_empty e3).at fun o q=>ycr _ q,fun _=>True.intro,fun y hy=>absurd rfl hy⟩
theorem qqo {prog:Program} {w:World} {env:Env} {e:Expr} {f:Str} {pos:Pos} {s:Shared} {Q:Value->Shared->Prop} (hb:attributeBase e f env (eval e env)=eval e env)
   (h:wpAny (model prog w) A (eval e env) (fun o s₁=>wpAny (model prog w) A (getAttr o f true) Q E s₁) E s):wpAny (model prog w) A (eval (.Attribute e f pos) env) Q E s :=
 Attribute_any_ h (by rw [arm_eval_Attribute,hb])
end
def qtR (K:PySem.W.Frag) (ta:TE) (f:Str):TE:=fun σ H Q=>ta σ H fun x H1=>∃a C dx fs v,x = .ref a/\H1 a=some (.ins C dx fs)/\Cls K C/\qdB K C f/\fs.lookup f=some v/\Q v H1
def qsM (K:PySem.W.Frag) (ta tv:TE) (f:Str):TS:=fun D σ H=>tv σ H fun y H1=>ta σ H1 fun x H2=>∃a C dx fs,x = .ref a/\H2 a=some (.ins C dx fs)/\Cls K C/\qdB K C f/\fs.length<1000 /\
 D.nx σ (upd H2 a (.ins C dx (qgG f y fs)))
section
variable {X:Cx} {o e value:Expr} {f:Str} {pos pos' tpos:Pos} {ta tv:TE}
theorem qdj (he:PE X e ta) (hb:attributeBase e f X.env (eval e X.env)=eval e X.env):PE X (.Attribute e f pos) (qtR X.K ta f):=by
 intro pins s σ H Q I h
 refine qqo hb (thn (he pins s σ H _ I h) fun u s1 ⟨x,H1,I1,rx,a,C,dx,fs,v,ex,ea,c,n,l,q⟩=>?_)
 subst ex
 obtain rfl:u=Value.ref a:=rx
 exact qjX I1 ea c n l fun u' s2 I2 ru=>⟨v,H1,I2,ru,q⟩
theorem qob (ha:PE X o ta) (hv:PE X value tv) (hs:swapsWith value (some (.Attribute o f pos')) pos.line X.env=pure false):PS X (.Assign [.Attribute o f pos'] value pos) (qsM X.K ta tv f):=by
 intro pins s σ H D I h
 refine plainObj_wpAny_Assign_Attribute (thn (hv pins s σ H _ I h) fun u s1 ⟨y,H1,I1,ry,q⟩=>thn (ha pins s1 σ H1 _ I1 q) fun ov s2 ⟨x,H2,I2,rx,a,C,dx,fs,ex,ea,c,n,l,q2⟩=>?_) hs
 subst ex
 obtain rfl:ov=Value.ref a:=rx
 exact qj6 I2 ea c n l ry fun s3 I3=>⟨σ,_,I3,q2⟩
theorem qoT {pl:Sem Bool} {m:Str} {apos:Pos} {args:List Expr} {pins:List (Addr×Obj)} {s:Shared} {σ:St} {H:Hp} {Q:Value->Shared->Prop} {te:TE} (he:PE X e te) (I:Inv X pins σ H s)
   (h:te σ H fun x H1=>∃a C dx fs g,x = .ref a/\H1 a=some (.ins C dx fs)/\Cls X.K C/\qrv X.K C m g/\fs.lookup m=none /\
     ∀s1,Inv X pins σ H1 s1->wpAny (model X.prog X.w) X.A (callWith pos (.ref g) [.ref a] (backTo pos (starEach args X.env)) (backToKw pos (keywordEach [] X.env))) Q X.xe s1)
   (ht:eval (.Call (.Attribute e m apos) args [] pos) X.env=(do
     let ov <-eval e X.env
     standAt apos.atName
     let (f,first) <-holding [ov] (getMethod ov m pl)
     callWith pos f first (backTo pos (starEach args X.env)) (backToKw pos (keywordEach [] X.env)))) :
   wpAny (model X.prog X.w) X.A (eval (.Call (.Attribute e m apos) args [] pos) X.env) Q X.xe s:=by
 refine PySem.W.methodCall_KW (pl:=pl) (thn (he pins s σ H _ I h) fun u s1 ⟨x,H1,I1,rx,a,C,dx,fs,g,ex,ea,c,k,l,q⟩=>?_) ht
 subst ex
 obtain rfl:u=Value.ref a:=rx
 exact qf0 I1 ea c k l (q s1 I1)
end
section
variable {X:Cx} {pins:List (Addr×Obj)} {σ:St} {H:Hp} {s:Shared} {A:Around} {E:Value->Shared->Prop} {Q:Value->Shared->Prop} {c:Value} {b:Bool}
inductive qjH (K:PySem.W.Frag) (H:Hp):V->Value->Prop where
 | non:qjH K H .non (.type "NoneType")
 | bl (x:Bool):qjH K H (.bl x) (.type "bool")
 | int (i:Int):qjH K H (.int i) (.type "int")
 | str (x:Str):qjH K H (.str x) (.type "str")
 | flt (x:UInt64):qjH K H (.flt x) (.type "float")
 | lst {a:Addr} {xs:List V} (e:H a=some (.lst xs)):qjH K H (.ref a) (.type "list")
 | frz {a:Addr} {o:Obj} {xs:List V} (e:H a=some (.frz o (.lst xs))):qjH K H (.ref a) (.type "list")
 | tup {a:Addr} {xs:List V} (e:H a=some (.tup xs)):qjH K H (.ref a) (.type "tuple")
 | dK {a:Addr} {kvs:List (Key×V)} (e:H a=some (.dK kvs)):qjH K H (.ref a) (.type "dict")
 | dT {a:Addr} {kvs:List (List Key×V)} (e:H a=some (.dT kvs)):qjH K H (.ref a) (.type "dict")
 | ins {a C dx:Addr} {fs:List (Str×V)} (e:H a=some (.ins C dx fs)) (cl:Cls K C) (ha:PySem.W.findIn K (.ref C) "__class__" = some (some (.builtin "object.__class__")))
     (hn:PySem.W.specialIn K (.builtin "object.__class__") "__get__" = some (some (.builtin "getset_descriptor.__get__"))) (htk:PySem.W.takesIn K (.builtin "object.__class__")=some true)
     (hm:PySem.W.mroIn K C (.type "object")=some true):qjH K H (.ref a) (.ref C)
theorem qkU {x:V} {u t:Value} (I:Inv X pins σ H s) (rx:qbo x u) (ty:qjH X.K H x t) (e:PySem.W.kitOne X.K t c=some b) (h:∀tk,Q (.bool b) { s with toks:=tk }) :
   wpAny (model X.prog X.w) A (call (.builtin "isinstance") [u,c]) Q E s:=by
 cases ty with
 | non=>cases (show u=Value.none from rx);exact PySem.W.kia_one PySem.W.kitx_none I.kIn True.intro e (fun z=>nomatch z) h
 | bl y=>cases (show u=Value.bool y from rx);exact PySem.W.kia_one PySem.W.kitx_bool I.kIn True.intro e (fun z=>nomatch z) h
 | int i=>obtain ⟨t,q⟩:=(show ∃t,u=Value.int i t from rx);cases q;exact PySem.W.kia_one PySem.W.kitx_int I.kIn True.intro e (fun z=>nomatch z) h
 | str y=>obtain ⟨t,q⟩:=(show ∃t,u=Value.str y (t+1) from rx);cases q;exact PySem.W.kia_one PySem.W.kitx_str I.kIn True.intro e (fun z=>nomatch z) h
 | flt y=>obtain ⟨t,q⟩:=(show ∃t,u=Value.float y t from rx);cases q;exact PySem.W.kia_one PySem.W.kitx_float I.kIn True.intro e (fun z=>nomatch z) h
 | @lst a xs ea =>
   cases (show u=Value.ref a from rx)
   obtain ⟨_,_,n,_,h1⟩:=(show qbs X.prog X.w H s.heap a (.lst xs) from I.hok a _ ea)
   exact PySem.W.kia_one PySem.W.kitx_list I.kIn ⟨_,h1,rfl⟩ e (fun z=>nomatch z) h
 | @frz a ob xs ea =>
   cases (show u=Value.ref a from rx)
   obtain ⟨_,_,_,n,_,h1⟩:=(show qbs X.prog X.w H s.heap a (.frz ob (.lst xs)) from I.hok a _ ea)
   exact PySem.W.kia_one PySem.W.kitx_list I.kIn ⟨_,h1,rfl⟩ e (fun z=>nomatch z) h
 | @tup a xs ea =>
   cases (show u=Value.ref a from rx)
   obtain ⟨_,_,_,p⟩:=(show qbs X.prog X.w H s.heap a (.tup xs) from I.hok a _ ea)
   obtain ⟨o,h1,h2,_⟩:=p
   exact PySem.W.kia_one PySem.W.kitx_tuple I.kIn ⟨o,h1,h2⟩ e (fun z=>nomatch z) h
 | @dK a kvs ea =>
   cases (show u=Value.ref a from rx)
   obtain ⟨_,_,vs,_,p⟩:=(show qbs X.prog X.w H s.heap a (.dK kvs) from I.hok a _ ea)
   obtain ⟨o,es,ep,h1,h2,_⟩:=p
   exact PySem.W.kia_one PySem.W.kitx_dict I.kIn ⟨o,h1,h2.1⟩ e (fun z=>nomatch z) h
 | @dT a kvs ea =>
   cases (show u=Value.ref a from rx)
   obtain ⟨_,_,xs,_,o,es,ep,h1,h2,_⟩:=(show qbs X.prog X.w H s.heap a (.dT kvs) from I.hok a _ ea)
   exact PySem.W.kia_one PySem.W.kitx_dict I.kIn ⟨o,h1,h2.1⟩ e (fun z=>nomatch z) h
 | @ins a C dx fs ea cl ha hn htk hm =>
   cases (show u=Value.ref a from rx)
   obtain ⟨mA,O,_⟩:=qgN I.hok ea
   obtain ⟨od,J,_⟩:=O.look
   exact PySem.W.kia_one (PySem.W.kitx_own (cl.get _) cl.hd ha hn htk hm) I.kIn J e (fun z=>nomatch z) h
end
end L2
namespace L2
open PySem PySem.Spec PyProof.Rows
structure qc3 (k:Nat) (A:Around):Prop where
 hd:A.handled=none
 dp:A.depth+3*k+5<recursionLimit
 un:A.units+16*k+200<cLine
theorem qc3.mono {j k:Nat} {A:Around} (r:qc3 k A) (h:j<=k):qc3 j A:=⟨r.hd,by have:=r.dp;omega,by have:=r.un;omega⟩
theorem qc3.deeper {k:Nat} {A:Around} (r:qc3 (k+1) A) (env:Env):qc3 k (A.deeper env) :=
 ⟨r.hd,by have:=r.dp;show A.depth+1+3*k+5<_;omega,by have:=r.un;show A.units+3+16*k+200<_;omega⟩
theorem qkd {A:Around} {C:Addr} {us:List Value} {kw:List (Str×Value)}:(A.under (.builtin "type.__call__" ⟨.ref C::us,kw⟩)).depth=A.depth+1:=by
 first | rfl | simp [Around.under,Code.weight,Code.isCreation,Code.isGuard,Code.isCaller,Code.frames,Code.isFrame,guardIds]
theorem qjQ {A:Around} {C:Addr} {us:List Value} {kw:List (Str×Value)}:(A.under (.builtin "type.__call__" ⟨.ref C::us,kw⟩)).units=A.units+1:=by
 first | rfl | simp [Around.under,Code.cUnits,Code.frames,Code.isFrame]
theorem qc3.make {k:Nat} {A:Around} (r:qc3 (k+1) A) (C:Addr) (us:List Value) (kw:List (Str×Value)):qc3 k (A.under (.builtin "type.__call__" ⟨.ref C::us,kw⟩)) :=
 ⟨r.hd,by have:=r.dp;rw [qkd];omega,by have:=r.un;rw [qjQ];omega⟩
theorem qc3.depth {k:Nat} {A:Around} (r:qc3 k A):A.depth<recursionLimit:=by have:=r.dp;omega
theorem qc3.units {k:Nat} {A:Around} (r:qc3 k A):A.units+64<cLine:=by have:=r.un;omega
theorem qc3.units0 {k:Nat} {A:Around} (r:qc3 k A):A.units<cLine:=by have:=r.un;omega
def qqY:TA:=fun _ H Q=>Q [] H
def qdo (ta:TE) (tr:TA):TA:=fun σ H Q=>ta σ H fun x H1=>tr σ H1 fun xs H2=>Q (x::xs) H2
section
variable {X:Cx} {e:Expr} {es:List Expr} {te:TE} {t:TA} {pos:Pos}
theorem qad:PA X [] qqY:=fun _ _ _ _ H Q I h=>Calls.spliced_nil ⟨[],H,I,.nil,h⟩
theorem qaa (ha:PE X e te) (hr:PA X es t) (hs:starEach (e::es) X.env=(false,eval e X.env)::starEach es X.env:=by rfl):PA X (e::es) (qdo te t):=by
 intro pos pins s σ H Q I h
 rw [hs]
 show wpAny _ _ (spliced ((false,eval e X.env)::backTo pos (starEach es X.env))) _ _ s
 refine Calls.spliced_cons (thn (ha pins s σ H _ I h) fun u s1 ⟨x,H1,I1,r1,q1⟩=>?_)
 exact thn (hr pos pins s1 σ H1 _ I1 q1) fun us s2 ⟨xs,H2,I2,r2,q2⟩=>⟨x::xs,H2,I2,.cons r1 r2,q2⟩
def qtS (t:TA):TE:=fun σ H Q=>t σ H fun xs H1=>xs.length<=sizeLine/\∀p,H1 p=none->Q (.ref p) (upd H1 p (.tup xs))
def qtG (t:TA):TE:=fun σ H Q=>t σ H fun xs H1=>xs.length<=sizeLine/\∀p,H1 p=none->Q (.ref p) (upd H1 p (.lst xs))
theorem qkV {x1} (h:PA X es t):PE X (.Tuple es x1 pos) (qtS t):=by
 intro pins s σ H Q I hq
 refine wpAny_Tuple_spliced (thn (h pos pins s σ H _ I hq) fun us s1 ⟨xs,H1,I1,r,z,q⟩=>⟨by rw [<-r.length];exact z,?_⟩)
 have hf:H1 s1.heap.objs.size=none:=I1.hok.fresh (yax _)
 refine ⟨.ref s1.heap.objs.size,upd H1 s1.heap.objs.size (.tup xs),I1.laid (t':=s1.toks) (fun b u e=>ycr _ e) (yax _) ?_,rfl,q _ hf⟩
 exact ⟨z,us,r,⟨_,ycq _ rfl,rfl,_,rfl⟩⟩
theorem qaw (h:PA X es t):PE X (.List es pos) (qtG t):=by
 intro pins s σ H Q I hq
 refine wpAny_List_spliced (thn (h pos pins s σ H _ I hq) fun us s1 ⟨xs,H1,I1,r,z,q⟩=>⟨by rw [<-r.length];exact z,?_⟩)
 have hf:H1 s1.heap.objs.size=none:=I1.hok.fresh (yax _)
 refine ⟨.ref s1.heap.objs.size,upd H1 s1.heap.objs.size (.lst xs),I1.laid (t':=s1.toks) (fun b u e=>ycr _ e) (yax _) ?_,rfl,q _ hf⟩
 exact ⟨z,us,0,r,ycq _ rfl⟩
end
abbrev Sp:=List V->Hp->VK->XK->Prop
abbrev CXT:=List Env->Hp->Shared->XK->Value->Shared->Prop
structure qpS (P:Program) (w:World) (K:PySem.W.Frag) (mg:Str->Option Value) (base:Heap) (A:Around) (outer:List Env) (s:Shared) (H:Hp):Prop where
 frames:A.frames=some outer
 mod:Mod K mg base
 bs:∀b o,base.get? b=some o->s.heap.get? b=some o/\H b=none
 bsz:base.objs.size<=s.heap.objs.size
 funs:s.heap.FunFrames base outer
 frf:∀b∈frs outer,H b=none
 hok:HOk P w H s.heap
 bare:AllBare s.gens
def CE (outer:List Env) (P:Program) (w:World) (H:Hp) (s:Shared) (Q:VK) (u:Value) (s':Shared):Prop :=
 ∃v H',s'.os=s.os/\AllBare s'.gens/\Un (frs outer) [] H H' s.heap s'.heap/\HOk P w H' s'.heap/\qbo v u/\1<=s'.toks/\Q v H'
def CR (CX:CXT) (outer:List Env) (P:Program) (w:World) (H:Hp) (s:Shared) (Q:VK) (E:XK) (r:Result) (s':Shared):Prop :=
 match r with
 | .ok (.ret u)=>CE outer P w H s Q u s'
 | .ok _=>False
 | .error e=>CX outer H s E e s'
structure qaM (P:Program) (w:World) (K:PySem.W.Frag) (mg:Str->Option Value) (base:Heap) (CX:CXT) (k:Nat) (f:Addr) (fd:FuncData) (ps:List Str) (sp:Sp):Prop where
 len:∀vs H Q E,sp vs H Q E->vs.length=ps.length
 run:∀(A:Around) (outer:List Env) (s:Shared) (H:Hp) (args:Args) (us:List Value) (vs:List V) (Q:VK) (E:XK),qc3 k A->(1<=s.toks\/∃x,ps=[x]/\fd.scope.names.lookup x=some .local)->qpS P w K mg base A outer s H->BindsTo s fd args (ps.zip us)->qa6 vs us->sp vs H Q E ->
   codeAny (model P w) A (.call (.ref f) args) (CR CX outer P w H s Q E) s
theorem qpS.make {P:Program} {w:World} {K:PySem.W.Frag} {mg:Str->Option Value} {base:Heap} {A:Around} {outer:List Env} {s:Shared} {H:Hp} (e:qpS P w K mg base A outer s H) (C:Addr) (us:List Value) (kw:List (Str×Value)) :
 qpS P w K mg base (A.under (.builtin "type.__call__" ⟨.ref C::us,kw⟩)) outer s H:=⟨by first | exact e.frames | (simpa [Around.under,Code.envs,Code.isFrame,pushEnvs] using e.frames),e.mod,e.bs,e.bsz,e.funs,e.frf,e.hok,e.bare⟩
section
variable {X:Cx} {pins:List (Addr×Obj)} {σ:St} {H:Hp} {s s':Shared}
theorem Inv.env0 (I:Inv X pins σ H s):qpS X.prog X.w X.K X.mg X.base X.A X.stack s H :=
 ⟨I.ok.frames,I.ok.mod,I.bs,ybt I.ok.bsz I.sz,I.stack,I.stkFree,I.hok,I.bare⟩
theorem Inv.after {Q:VK} {u:Value} (I:Inv X pins σ H s) (h:CE X.stack X.prog X.w H s Q u s'):EP X pins σ Q u s':=by
 obtain ⟨v,H',os,bare,un,hok,r,ht,q⟩:=h
 obtain ⟨hh,g,d,t,os'⟩:=s'
 obtain rfl:os'=s.os:=os
 exact ⟨v,H',I.call (h':=hh) (g':=g) (d':=d) (t':=t) (ch:=[]) un hok bare (fun b z=>absurd z (by simp)) ht,r,q⟩
end
def qiH (sp:Sp) (dvs:List V) (E:XK) (t:TA):TE:=fun σ H Q=>t σ H fun vs H1=>sp (vs++dvs) H1 Q E
def qpp (C:Addr) (m:Str) (sp:Sp) (dvs:List V) (E:XK) (ta:TE) (t:TA):TE:=fun σ H Q=>ta σ H fun x H1=>∃a dx fs,x = .ref a/\H1 a=some (.ins C dx fs)/\fs.lookup m=none /\
 t σ H1 fun vs H2=>sp (x::(vs++dvs)) H2 Q E
def qoQ (C:Addr) (sp:Sp) (dvs:List V) (E:XK) (t:TA):TE:=fun σ H Q=>t σ H fun vs H1=>∀x dx,H1 x=none->H1 dx=none->dx≠x ->
 sp (.ref x::(vs++dvs)) (upd (upd H1 dx (.own x)) x (.ins C dx [])) (fun v H2=>v = .non/\Q (.ref x) H2) E
def qdr (K:PySem.W.Frag) (fd:FuncData) (ps:List Str) (ds:List Value):Prop :=
 ∀(s:Shared) (us:List Value),K.In s.heap->(us++ds).length=ps.length->BindsTo s fd ⟨us,[]⟩ (ps.zip (us++ds))
theorem qdr.all {K:PySem.W.Frag} {fd:FuncData} {ps:List Str} (h:∀us:List Value,us.length=ps.length->bindArgs fd ⟨us,[]⟩=pure (ps.zip us)):qdr K fd ps []:=fun s us _ hl=>by
 rw [yda] at hl ⊢
 exact .of_eq (h us hl)
def qch (CX:CXT) (X:Cx) (E:XK):Prop:=∀(pins:List (Addr×Obj)) (σ:St) (H:Hp) (s:Shared) (e:Value) (s':Shared),Inv X pins σ H s->CX X.stack H s E e s'->X.xe e s'
section
variable {X:Cx} {CX:CXT} {k:Nat} {f C:Addr} {fd:FuncData} {ps:List Str} {sp:Sp} {dvs:List V} {ds:List Value} {E:XK} {x m:Str} {p pos apos:Pos} {e o:Expr} {es:List Expr} {ta:TE} {t:TA}
theorem qml {pins:List (Addr×Obj)} {σ:St} {H:Hp} {s:Shared} {Q:VK} {us:List Value} {vs:List V} (F:qaM X.prog X.w X.K X.mg X.base CX k f fd ps sp) (hr:qc3 k X.A) (hb:qdr X.K fd ps ds) (hd:qa6 dvs ds) (hx:qch CX X E)
   (I:Inv X pins σ H s) (r:qa6 vs us) (h:sp (vs++dvs) H Q E):wpAny (model X.prog X.w) X.A (call (.ref f) us) (EP X pins σ Q) X.xe s:=by
 have r2:qa6 (vs++dvs) (us++ds):=r.append hd
 have hl:(us++ds).length=ps.length:=by rw [<-r2.length];exact F.len _ _ _ _ h
 refine wpAny_call (codeAny_mono (F.run X.A X.stack s H ⟨us,[]⟩ (us++ds) (vs++dvs) Q E hr (.inl I.tk) I.env0 (hb s us I.kIn hl) r2 h) fun r s' hq=>?_)
 cases r with
 | error e=>exact hx pins σ H s e s' I hq
 | ok fl =>
   cases fl with
   | ret u=>exact I.after hq
   | next=>exact False.elim hq
   | brk=>exact False.elim hq
   | cont=>exact False.elim hq
theorem qmB (F:qaM X.prog X.w X.K X.mg X.base CX k f fd ps sp) (hr:qc3 k X.A) (hg:Gl X x) (hm:X.mg x=some (.ref f)) (hk:PySem.W.keepIn X.K (.ref f)=true) (hb:qdr X.K fd ps ds) (hd:qa6 dvs ds) (hx:qch CX X E)
   (ha:PA X (e::es) t) (hdb:(x==("__debug__" : Str))=false:=by decide) (he:starEach (e::es) X.env=(false,eval e X.env)::starEach es X.env:=by rfl) (hpl:(backTo pos (starEach es X.env)).any (·.1)=false:=by rfl) :
   PE X (.Call (.Name x p) (e::es) [] pos) (qiH sp dvs E t):=by
 intro pins s σ H Q I h
 refine wpAny_Call_Name_kw (qdm I hg hm ?_ hdb)
 refine PySem.W.callWith_K (h₀:=X.base) I.ok.mod.kin hk (thn (ha pos pins s σ H _ I h) fun us s1 ⟨vs,H1,I1,r,q⟩=>⟨I1.kIn,?_⟩) he hpl
 exact qml F hr hb hd hx I1 r q
theorem qnu (F:qaM X.prog X.w X.K X.mg X.base CX k f fd ps sp) (hr:qc3 k X.A) (hg:Gl X x) (hm:X.mg x=some (.ref f)) (hk:PySem.W.keepIn X.K (.ref f)=true) (hb:qdr X.K fd ps ds) (hd:qa6 dvs ds) (hx:qch CX X E)
   (hdb:(x==("__debug__" : Str))=false:=by decide):PE X (.Call (.Name x p) [] [] pos) (qiH sp dvs E qqY):=by
 intro pins s σ H Q I h
 refine wpAny_Call_Name_kw (qdm I hg hm ?_ hdb)
 exact PySem.W.callWith_K0 I.kIn hk (qml (us:=[]) F hr hb hd hx I .nil h)
theorem qp1 {pl:Sem Bool} (he:PE X o ta) (c:Cls X.K C) (hm:qrv X.K C m f) (F:qaM X.prog X.w X.K X.mg X.base CX k f fd ps sp) (hr:qc3 k X.A) (hb:qdr X.K fd ps ds) (hd:qa6 dvs ds) (hx:qch CX X E) (ha:PA X (e::es) t)
   (hst:starEach (e::es) X.env=(false,eval e X.env)::starEach es X.env:=by rfl) (hpl:(backTo pos (starEach es X.env)).any (·.1)=false:=by rfl)
   (ht:eval (.Call (.Attribute o m apos) (e::es) [] pos) X.env=(do
     let ov <-eval o X.env
     standAt apos.atName
     let (f,first) <-holding [ov] (getMethod ov m pl)
     callWith pos f first (backTo pos (starEach (e::es) X.env)) (backToKw pos (keywordEach [] X.env))):=by rfl) :
   PE X (.Call (.Attribute o m apos) (e::es) [] pos) (qpp C m sp dvs E ta t):=by
 intro pins s σ H Q I h
 refine PySem.W.methodCall_KW (pl:=pl) (thn (he pins s σ H _ I h) fun u s1 ⟨x,H1,I1,rx,a,dx,fs,ex,ea,l,q⟩=>?_) ht
 subst ex
 obtain rfl:u=Value.ref a:=rx
 refine qf0 I1 ea c hm l ?_
 refine PySem.W.callWith_K (first:=[.ref a]) (h₀:=X.base) I.ok.mod.kin hm.kp (thn (ha pos pins s1 σ H1 _ I1 q) fun us s2 ⟨vs,H2,I2,r,q2⟩=>⟨I2.kIn,?_⟩) hst hpl
 exact qml (us := .ref a::us) (vs := .ref a::vs) F hr hb hd hx I2 (.cons rfl r) q2
structure Mk (K:PySem.W.Frag) (C f:Addr):Prop where
 makes:PySem.W.makesIn K C=true
 init:PySem.W.findIn K (.ref C) "__init__" = some (some (.ref f))
 fn:PySem.W.isFn K (.ref f)=true
 kp:PySem.W.keepIn K (.ref C)=true
theorem qno {pins:List (Addr×Obj)} {σ:St} {H:Hp} {s:Shared} {Q:VK} {us:List Value} {vs:List V} (M:Mk X.K C f) (F:qaM X.prog X.w X.K X.mg X.base CX k f fd ps sp) (hr:qc3 (k+1) X.A) (hb:qdr X.K fd ps ds) (hd:qa6 dvs ds)
   (hx:qch CX X E) (I:Inv X pins σ H s) (r:qa6 vs us)
   (h:∀x dx,H x=none->H dx=none->dx≠x->sp (.ref x::(vs++dvs)) (upd (upd H dx (.own x)) x (.ins C dx [])) (fun v H2=>v = .non/\Q (.ref x) H2) E) :
   wpAny (model X.prog X.w) X.A (call (.ref C) us) (EP X pins σ Q) X.xe s:=by
 have hq:=h (s.heap.objs.size+1) s.heap.objs.size (I.hok.fresh (ycp _)) (I.hok.fresh (yax _)) (ycu (ybx _))
 have I2:=Inv.made (C:=C) I
 have r2:qa6 (V.ref (s.heap.objs.size+1)::(vs++dvs)) (Value.ref (s.heap.objs.size+1)::(us++ds)) := .cons rfl (r.append hd)
 have hl:(Value.ref (s.heap.objs.size+1)::us++ds).length=ps.length:=by
   have e:=r2.length
   rw [F.len _ _ _ _ hq] at e
   exact e.symm
 refine wpAny_call (qnT (f:=f) I.kIn M.makes M.init (beq_iff_eq.mp M.fn) (codeAny_mono (F.run _ X.stack _ _ ⟨Value.ref (s.heap.objs.size+1)::us,[]⟩ (Value.ref (s.heap.objs.size+1)::(us++ds)) _ _ E (hr.make C us []) (.inl I2.tk)
   (I2.env0.make C us []) (hb _ (Value.ref (s.heap.objs.size+1)::us) I2.kIn hl) r2 hq) fun r s' hq'=>?_))
 cases r with
 | error e=>exact hx pins σ _ _ e s' I2 hq'
 | ok fl =>
   cases fl with
   | ret u =>
     obtain ⟨v,H',I3,rv,ev,q3⟩:=I2.after hq'
     subst ev
     exact ⟨rv,⟨V.ref (s.heap.objs.size+1),H',I3,rfl,q3⟩⟩
   | next=>exact False.elim hq'
   | brk=>exact False.elim hq'
   | cont=>exact False.elim hq'
theorem qp6 (M:Mk X.K C f) (F:qaM X.prog X.w X.K X.mg X.base CX k f fd ps sp) (hr:qc3 (k+1) X.A) (hg:Gl X x) (hm:X.mg x=some (.ref C)) (hb:qdr X.K fd ps ds) (hd:qa6 dvs ds) (hx:qch CX X E)
   (ha:PA X (e::es) t) (hdb:(x==("__debug__" : Str))=false:=by decide) (he:starEach (e::es) X.env=(false,eval e X.env)::starEach es X.env:=by rfl) (hpl:(backTo pos (starEach es X.env)).any (·.1)=false:=by rfl) :
   PE X (.Call (.Name x p) (e::es) [] pos) (qoQ C sp dvs E t):=by
 intro pins s σ H Q I h
 refine wpAny_Call_Name_kw (qdm I hg hm ?_ hdb)
 refine PySem.W.callWith_K (h₀:=X.base) I.ok.mod.kin M.kp (thn (ha pos pins s σ H _ I h) fun us s1 ⟨vs,H1,I1,r,q⟩=>⟨I1.kIn,?_⟩) he hpl
 exact qno M F hr hb hd hx I1 r q
end
section
variable {X:Cx} {CX:CXT} {k:Nat} {f C:Addr} {fd:FuncData} {ps ks:List Str} {sp:Sp} {E:XK} {x m:Str} {p pos apos kpos:Pos} {e o:Expr} {es:List Expr} {kws:List Keyword} {te ta:TE} {t tk:TA} {nm:Option Str}
structure qtM (K:PySem.W.Frag) (fd:FuncData) (ps ks:List Str) (g:List Value->List Value->List Value) (gV:List V->List V->List V):Prop where
 to:∀(s:Shared) (us ws:List Value),K.In s.heap->(g us ws).length=ps.length->BindsTo s fd ⟨us,ks.zip ws⟩ (ps.zip (g us ws))
 rel:∀{vs:List V} {us:List Value} {zs:List V} {ws:List Value},qa6 vs us->qa6 zs ws->qa6 (gV vs zs) (g us ws)
variable {g:List Value->List Value->List Value} {gV:List V->List V->List V}
end
structure qal (N P:List Str) (sc:Scope):Prop where
 kind:sc.kind = .function
 co:sc.isCoroutine=false
 gen:sc.isGenerator=false
 nd:N.Nodup
 pre:N.take P.length=P
 par:∀x∈P,sc.names.lookup x=some .local\/sc.names.lookup x=some .cell
 nofree:∀y∈sc.names,y.2 ≠ .free
theorem qhG {kindOf:Str->Option NameKind} {x:Str}:∀{binds:List (Str×Value)} {m:Str->Option Value},(∀v,(x,v)∉binds)->bindL kindOf binds m x=m x
 | [],_,_=>rfl
 | (n,v)::r,m,h=>by
   unfold bindL
   rw [qhG fun w hw=>h w (ybe _ hw)]
   split
   . have:x≠n:=by rintro rfl;exact h v ybb
     simp [this]
   . rfl
theorem qhX {kindOf:Str->Option NameKind} {x:Str}:∀{binds:List (Str×Value)} {m:Str->Option Value},(∀v,(x,v)∉binds)->bindC kindOf binds m x=m x
 | [],_,_=>rfl
 | (n,v)::r,m,h=>by
   unfold bindC
   rw [qhX fun w hw=>h w (ybe _ hw)]
   split
   . rfl
   . have:x≠n:=by rintro rfl;exact h v ybb
     simp [this]
theorem qhi {kindOf:Str->Option NameKind} {x:Str} {v:Value}:∀{P:List Str} {vs:List Value} {i:Nat} {m:Str->Option Value},P.Nodup->P[i]?=some x->vs[i]?=some v->kindOf x=some .local ->
   bindL kindOf (P.zip vs) m x=some v
 | [],_,_,_,_,h,_,_=>by simp at h
 | _::_,[],_,_,_,_,h,_=>by simp at h
 | p::P,w::vs,0,m,nd,h1,h2,hk=>by
   simp at h1 h2;subst h1;subst h2
   show bindL kindOf ((p,w)::P.zip vs) m p=_
   unfold bindL
   rw [qhG fun v hv=>(yeb.mp nd).1 (yec hv).1,if_pos hk]
   simp
 | p::P,w::vs,i+1,m,nd,h1,h2,hk=>by
   show bindL kindOf ((p,w)::P.zip vs) m x=_
   unfold bindL
   exact qhi (i:=i) (yeb.mp nd).2 (by simpa using h1) (by simpa using h2) hk
theorem qhm {kindOf:Str->Option NameKind} {x:Str} {v:Value}:∀{P:List Str} {vs:List Value} {i:Nat} {m:Str->Option Value},P.Nodup->P[i]?=some x->vs[i]?=some v->kindOf x≠some .local ->
   bindC kindOf (P.zip vs) m x=some v
 | [],_,_,_,_,h,_,_=>by simp at h
 | _::_,[],_,_,_,_,h,_=>by simp at h
 | p::P,w::vs,0,m,nd,h1,h2,hk=>by
   simp at h1 h2;subst h1;subst h2
   show bindC kindOf ((p,w)::P.zip vs) m p=_
   unfold bindC
   rw [qhX fun v hv=>(yeb.mp nd).1 (yec hv).1,if_neg hk]
   simp
 | p::P,w::vs,i+1,m,nd,h1,h2,hk=>by
   show bindC kindOf ((p,w)::P.zip vs) m x=_
   unfold bindC
   exact qhm (i:=i) (yeb.mp nd).2 (by simpa using h1) (by simpa using h2) hk
def qgr (N:List Str) (vs:List V):St:=vs.map some++List.replicate (N.length-vs.length) none
def qg6 (CX:CXT) (P:Program) (w:World) (K:PySem.W.Frag) (mg:Str->Option Value) (base:Heap) (N:List Str) (qual:Str) (scope:Scope) (f:Addr) (cd:Value) (A:Around) (outer:List Env) (s:Shared) (H:Hp) (E:XK):Cx where
 prog:=P
 w:=w
 K:=K
 mg:=mg
 base:=base
 A:=A.deeper (envOfC qual scope s.heap.objs.size f cd)
 N:=N
 s₀:=s
 H₀:=H
 env:=envOfC qual scope s.heap.objs.size f cd
 outer:=outer
 stack:=envOfC qual scope s.heap.objs.size f cd::outer
 ex:=[]
 calm:=true
 fn:=fun _=>true
 pn:=[]
 xe:=fun e s'=>wpAny (model P w) (A.deeper (envOfC qual scope s.heap.objs.size f cd)) (leaving (envOfC qual scope s.heap.objs.size f cd) e) (fun _ s''=>CX outer H s E e s'') (fun e' s''=>CX outer H s E e' s'') s'
theorem qjl {sc:Scope} {n:Nat} {x:Str} (h:sc.names.lookup x=some .cell):∃c,(cellsFrom n sc.names []).lookup x=some c:=by
 have q:=PySem.W.cellsFrom_some sc.names n [] (.inl h)
 exact yed.mp q
theorem qlV {CX:CXT} {P:Program} {w:World} {K:PySem.W.Frag} {mg:Str->Option Value} {base:Heap} {N ps:List Str} {qual:Str} {scope:Scope} {f:Addr} {cd:Value} {A:Around} {outer:List Env} {s s1:Shared} {H:Hp} {E:XK} {us:List Value} {vs:List V}
   (S:qal N ps scope) (hd:A.handled=none) (e0:qpS P w K mg base A outer s H) (hl:vs.length=ps.length) (r:qa6 vs us)
   (x:InCallC s s.heap.objs.size (bindL (envOfC qual scope s.heap.objs.size f cd).kindOf (ps.zip us) fun _=>none) (cellsFrom (s.heap.objs.size+1) scope.names []) (bindC (envOfC qual scope s.heap.objs.size f cd).kindOf (ps.zip us) fun _=>none) s1) (htk:1<=s1.toks) :
   Inv (qg6 CX P w K mg base N qual scope f cd A outer s H E) [] (qgr N vs) H s1:=by
 have hpl:ps.length<=N.length:=by have:=congrArg List.length S.pre;rw [yee] at this;omega
 obtain ⟨h1,tk,rfl,hk⟩:=x.done
 have noA:∀b:Addr,b∉(qg6 CX P w K mg base N qual scope f cd A outer s H E).ex:=fun b z=>absurd (show b∈([]:List Addr) from z) (by simp)
 refine ⟨⟨e0.mod,S.kind,rfl,rfl,yax _,fun y z c h1 h2=>?_,fun y hy=>?_,fun y c _ h=>?_,fun _=>hd,Around.frames_deeper e0.frames,.inr ⟨rfl,rfl⟩,fun b z=>absurd z (noA b),e0.bs,e0.bsz,fun b _ _=>noA b,fun b z=>absurd z (noA b),e0.funs,e0.frf⟩,
   rfl,e0.bare,Un.kept hk,⟨_,x.toInCall.ns,fun i y v h1 h2 h3=>?_⟩,fun y c h=>⟨_,x.cell y c h⟩,e0.hok.fresh (yax _),fun y c h=>?_,fun p hp=>absurd (show p∈([]:List (Addr×Obj)) from hp) (by simp),e0.hok.kept hk,?_,htk⟩
 . exact name_of_addr x.apart (PySem.mem_of_lookup h1) (PySem.mem_of_lookup h2)
 . have hy:scope.names.lookup y=some .cell\/scope.names.lookup y=some .free:=hy
   rcases hy with hy | hy
   . exact qjl hy
   . exact absurd rfl (S.nofree _ (PySem.mem_of_lookup hy))
 . exact ybs (x.above y c (PySem.mem_of_lookup h))
 . have hi:i<vs.length:=by
     unfold qgr at h2
     by_cases hi:i<vs.length
     . exact hi
     . rw [yef (by simpa using hi)] at h2
       rw [yeg] at h2
       split at h2<;>cases h2
   have ha:vs[i]?=some v:=by
     unfold qgr at h2
     rw [yeh (by simpa using hi),ydf] at h2
     cases e:vs[i]? with
     | none=>rw [e] at h2;cases h2
     | some a=>rw [e] at h2;cases h2;rfl
   obtain ⟨u,hu,rv⟩:=r.get ha
   have hp:ps[i]?=some y:=by
     rw [<-S.pre,List.getElem?_take_of_lt (by omega)];exact h1
   have ndP:ps.Nodup:=by rw [<-S.pre];exact S.nd.sublist (List.take_sublist _ _)
   refine ⟨u,rv,?_⟩
   rcases S.par y (ydk hp) with k | k
   . exact .inl ⟨k,qhi ndP hp hu k⟩
   . obtain ⟨c,e⟩:=qjl (n:=s.heap.objs.size+1) k
     refine .inr ⟨.inl k,c,e,?_⟩
     have q:=x.cell y c e
     rw [qhm ndP hp hu (by show scope.names.lookup y≠_;rw [k];decide)] at q
     exact q
 . exact e0.hok.fresh (ybs (x.above y c (PySem.mem_of_lookup h)))
 . unfold qgr
   show _=N.length
   rw [ycm,ycj,yei]
   omega
theorem qqN {k:Str->Option NameKind} {x:Str} {u:Value} (h:k x=some .local):bindL k [(x,u)] (fun _=>none)=fun y=>if y=x then some u else none:=by
 show (if k x=some .local then _ else _)=_
 rw [if_pos h]
theorem qq6 {k:Str->Option NameKind} {x:Str} {u:Value} (h:k x=some .local):bindC k [(x,u)] (fun _=>none)=fun _=>none:=by
 show (if k x=some .local then _ else _)=_
 rw [if_pos h]
theorem qjY {M:Model} {A:Around} {E:Value->Shared->Prop} {s:Shared} {scope:Scope} {globals:Addr} {x:Str} {u:Value} {qual:Str} {func:Option Addr} {code:Value} {builtins:Addr} {Q:Env->Shared->Prop}
   (hk:scope.kind = .function) (hx:scope.names.lookup x=some .local)
   (hQ:∀env,env=newEnv scope s.heap.objs.size globals (cellsFrom (s.heap.objs.size+1) scope.names []) qual func code none builtins ->
     ∀s',InCallC s env.locals (bindL env.kindOf [(x,u)] fun _=>none) env.cells (bindC env.kindOf [(x,u)] fun _=>none) s'->1<=s'.toks->Q env s') :
   wpAny M A (newFunctionEnv scope globals [] [(x,u)] qual func code none builtins) Q E s:=by
 simp only [newFunctionEnv,Option.isSome_none,ydm,if_false]
 refine wpAny_bind (wpAny_alloc ?_)
 refine wpAny_bind (wpAny_layCells _ (fun name kind cells=>by cases hkc:kind==NameKind.cell<;>simp [hkc]) _ _ _ _ ?_)
 have ok:=cellsFrom_ok scope.names (s.heap.push { cls := .type "frame",data := .dict #[] }) (s.heap.objs.size+1) [] ⟨fun _ _ hm=>(nomatch hm),List.Pairwise.nil⟩ (by rw [yct];exact yax _)
 rw [yct] at ok
 rw [show ({ s with heap:=s.heap.push { cls := .type "frame",data := .dict #[] } }:Shared).heap.objs.size=s.heap.objs.size+1 from yct ..]
 refine wpAny_bind ?_
 rw [yej]
 have hx':(newEnv scope s.heap.objs.size globals (cellsFrom (s.heap.objs.size+1) scope.names []) qual func code none builtins).kindOf x=some .local:=hx
 have n0:(pushCells (s.heap.push { cls := .type "frame",data := .dict #[] }) scope.names).Ns s.heap.objs.size (fun _=>none):=(Heap.Ns.new s.heap (.type "frame")).keeps (pushCells_keeps _ _)
 refine wpAny_bind (wpAny_bind (wpAny_storeName_local (env:=newEnv scope s.heap.objs.size globals (cellsFrom (s.heap.objs.size+1) scope.names []) qual func code none builtins) hx n0 (fun h' hn hs=>?_) ?_))
 . refine wpAny_pure ?_
   show wpAny M A (forIn [] _ _) _ E _
   rw [yek]
   refine wpAny_pure (wpAny_pure (hQ _ rfl _ ?_ (ydo 1 _)))
   exact ⟨⟨⟨_,_,rfl⟩,by rw [qqN hx'];exact hn,fun b o z=>(hs.2 b (ycu (ycs z))).trans (pushCells_keeps _ _ b o (ycr _ z)),yax _⟩,
     fun n c hc=>by
       have z:=(ok.empty n c (mem_of_lookup hc))
       rw [qq6 hx']
       exact z.1.sameBut hs (ycx z.2),ok.apart,fun n c hm=>(ok.empty n c hm).2⟩
 . have e:(newEnv scope s.heap.objs.size globals (cellsFrom (s.heap.objs.size+1) scope.names []) qual func code none builtins).scope.kind = .function:=hk
   rw [e];rfl
theorem qq9 {CX:CXT} {P:Program} {w:World} {K:PySem.W.Frag} {mg:Str->Option Value} {base:Heap} {k:Nat} {f:Addr} {name qual:Str} {params:Arguments} {body:List Stmt} {scope:Scope} {dV kV doc pm cdv ct oc:Value} {an od:Option Addr}
   {osl:Array (Option Value)} {N ps:List Str} {sp:Sp} (lk:K.lookup f=some ⟨oc,od,.func (PySem.W.fnOf name qual params body scope dV kV doc pm an cdv ct),osl⟩) (hcd:PySem.W.codeIn K cdv qual=true) (S:qal N ps scope)
   (len:∀vs H Q E,sp vs H Q E->vs.length=ps.length)
   (hbody:∀(A:Around) (outer:List Env) (s:Shared) (H:Hp) (vs:List V) (Q:VK) (E:XK),qc3 k (A.deeper (envOfC qual scope s.heap.objs.size f cdv))->sp vs H Q E ->
     ∃t,PSs (qg6 CX P w K mg base N qual scope f cdv A outer s H E) body t/\t { nx:=fun _ H'=>Q .non H',rt:=Q } (qgr N vs) H) :
   qaM P w K mg base CX (k+1) f (PySem.W.fnOf name qual params body scope dV kV doc pm an cdv ct) ps sp:=by
 refine ⟨len,fun A outer s H args us vs Q E hr ht0 e0 hb r hsp=>?_⟩
 have hl:=len _ _ _ _ hsp
 have KX:K.In s.heap:=e0.mod.kin.keeps fun b o e=>(e0.bs b o e).1
 have lim:s.heap.NoLimit:=e0.mod.nolimit.keeps fun b o e=>(e0.bs b o e).1
 have hkind:∀y∈ps.zip us,scope.names.lookup y.1=some .local\/(scope.names.lookup y.1=some .cell/\((cellsFrom (s.heap.objs.size+1) scope.names []).lookup y.1).isSome=true):=fun ⟨n,v⟩ hy=>by
   rcases S.par n (yec hy).1 with q | q
   . exact .inl q
   . exact .inr ⟨q,PySem.W.cellsFrom_some _ _ _ (.inl q)⟩
 refine codeAny_call_function hr.depth (KX _ _ lk) rfl S.co S.gen rfl (PySem.W.codeRec_of KX hcd) (hb _ _ _ _ ?_)
 have beg:∀Q:Env->Shared->Prop,(∀env,env=newEnv scope s.heap.objs.size mainGlobals (cellsFrom (s.heap.objs.size+1) scope.names []) (qual ++ ".<locals>.") (some f) cdv none builtinsNs->∀s',InCallC s env.locals (bindL env.kindOf (ps.zip us) fun _=>none) env.cells (bindC env.kindOf (ps.zip us) fun _=>none) s'->1<=s'.toks->Q env s') ->
     ∀M A E,wpAny M A (newFunctionEnv scope mainGlobals [] (ps.zip us) (qual ++ ".<locals>.") (some f) cdv none builtinsNs) Q E s:=fun Q hQ M A E=>by
   rcases ht0 with z | ⟨x,rfl,hx⟩
   . exact wpAny_with_toks z (wpAny_newFunctionEnv_cells S.kind hkind fun env he s1 x z=>hQ env he s1 x z)
   . obtain ⟨u,rfl⟩:∃u,us=[u]:=by
       have:=r.length
       match us,this.symm.trans hl with
       | [u],_=>exact ⟨u,rfl⟩
     exact qjY S.kind hx hQ
 refine beg _ (fun env he s1 x htk=>?_) _ _ _
 subst he
 refine ⟨lim.keeps x.toInCall.keep,codeAny_func ?_⟩
 obtain ⟨t,ht,hq⟩:=hbody A outer s H vs Q E (hr.deeper _) hsp
 have I:Inv (qg6 CX P w K mg base N qual scope f cdv A outer s H E) [] (qgr N vs) H s1:=qlV S hr.hd e0 hl r x htk
 refine wpAny_mono (ht [] s1 (qgr N vs) H _ I hq) (fun fl s' hs=>?_) fun e s' hs=>hs
 have fin:∀{σ':St} {H':Hp} {v:V} {u:Value},Inv (qg6 CX P w K mg base N qual scope f cdv A outer s H E) [] σ' H' s'->qbo v u->Q v H'->CE outer P w H s Q u s' :=
   fun {σ' H' v u} J rv q=>⟨v,H',J.os,J.bare,J.base,J.hok,rv,J.tk,q⟩
 cases fl with
 | ret u =>
   obtain ⟨v,σ',H',J,rv,q⟩:=hs
   exact fin J rv q
 | next =>
   obtain ⟨σ',H',J,q⟩:=hs
   exact fin (v:=V.non) (u:=Value.none) J rfl q
 | brk =>
   obtain ⟨_,_,_,q⟩:=hs
   exact False.elim q
 | cont =>
   obtain ⟨_,_,_,q⟩:=hs
   exact False.elim q
end L2
namespace L2
open PySem PySem.Spec PyProof.Rows
section
variable {X:Cx} {x:Str} {p pos:Pos} {e:Expr} {es:List Expr} {t:TA} {id T:String} {r:List V->Hp->VK->Prop}
def tCB (r:List V->Hp->VK->Prop) (t:TA):TE:=fun σ H Q=>t σ H fun vs H1=>r vs H1 Q
theorem qau (hc:qcM X (.builtin id) r) (hg:Gl X x) (hm:X.mg x=none) (hv:bootBuiltins x=some (.builtin id)) (ha:PA X (e::es) t) (hn:x ≠ "__name__" := by decide) (hdb:(x==("__debug__" : Str))=false:=by decide)
   (he:starEach (e::es) X.env=(false,eval e X.env)::starEach es X.env:=by rfl) (hpl:(backTo pos (starEach es X.env)).any (·.1)=false:=by rfl):PE X (.Call (.Name x p) (e::es) [] pos) (tCB r t):=by
 intro pins s σ H Q I h
 refine wpAny_Call_Name_kw (qhq I hg hm hv ?_ hn hdb)
 exact PyProof.Rows.callWith_builtin1 (thn (ha pos pins s σ H _ I h) fun us s1 ⟨vs,H1,I1,r1,q1⟩=>hc pins s1 σ H1 vs us Q I1 r1 q1) he hpl
theorem qdF (hc:qcM X (.type T) r) (hg:Gl X x) (hm:X.mg x=none) (hv:bootBuiltins x=some (.type T)) (ha:PA X (e::es) t) (hn:x ≠ "__name__" := by decide) (hdb:(x==("__debug__" : Str))=false:=by decide)
   (he:starEach (e::es) X.env=(false,eval e X.env)::starEach es X.env:=by rfl) (hpl:(backTo pos (starEach es X.env)).any (·.1)=false:=by rfl):PE X (.Call (.Name x p) (e::es) [] pos) (tCB r t):=by
 intro pins s σ H Q I h
 refine wpAny_Call_Name_kw (qhq I hg hm hv ?_ hn hdb)
 exact PyProof.Rows.callWith_type1 (thn (ha pos pins s σ H _ I h) fun us s1 ⟨vs,H1,I1,r1,q1⟩=>hc pins s1 σ H1 vs us Q I1 r1 q1) he hpl
end
end L2
namespace HT
open PySem PyProof.Rows
section
open PySem.SeqAt
open PySem.AutoSeq1 (wpAny_loadPart')
open PySem.MeetsSeq PySem.MeetsSeq2 PySem.MeetsSeq3
end
section
variable {prog:Program} {w:World} {A:Around} {E:Value->Shared->Prop} {s:Shared}
def sIx (n d:Nat):Option Int->Nat
 | none=>d
 | some v=>if v<0 then (v+(n:Int)).toNat else min v.toNat n
theorem sIx_nat (n d k:Nat):sIx n d (some (k:Int))=min k n:=by
 show (if (k:Int)<0 then ((k:Int)+(n:Int)).toNat else min (k:Int).toNat n)=min k n
 rw [if_neg (by omega),yel]
end
end HT
namespace L2
open PySem PySem.Spec PyProof.Rows
abbrev TO:=St->Hp->(Option Int->Hp->Prop)->Prop
def PO (X:Cx) (e:Option Expr) (t:TO):Prop :=
 ∀(pins:List (Addr×Obj)) (s:Shared) (σ:St) (H:Hp) (Q:Option Int->Hp->Prop),Inv X pins σ H s->t σ H Q ->
   wpAny (model X.prog X.w) X.A (evalPart e X.env) (fun u s'=>∃o H',Inv X pins σ H' s'/\IsPart u o/\Q o H') X.xe s
def qlJ:TO:=fun _ H Q=>Q none H
def qrL (t:TE):TO:=fun σ H Q=>t σ H fun x H1=>∃i,x = .int i/\Q (some i) H1
theorem qgg {ns:List Int}:∀{us:List Value},qa6 (ns.map V.int) us->IntsAre us ns:=by
 induction ns with
 | nil=>intro us r;rw [yem] at r;cases r;exact .nil
 | cons n ns ih =>
   intro us r
   rw [ych] at r
   cases r with
   | cons r1 r2 =>
     obtain ⟨t,e⟩:=r1
     subst e
     exact .cons n t (ih r2)
section
variable {X:Cx} {e:Expr} {te:TE} {lo hi:Option Expr} {tl th:TO} {pos p2:Pos}
theorem qfJ:PO X none qlJ:=by
 intro pins s σ H Q I h
 rw [evalPart_none]
 exact wpAny_pure ⟨none,H,I,.none,h⟩
theorem qdq (h:PE X e te):PO X (some e) (qrL te):=by
 intro pins s σ H Q I hw
 rw [evalPart_some]
 refine thn (h pins s σ H _ I hw) fun u s1 ⟨x,H1,I1,r1,q1⟩=>?_
 obtain ⟨i,rfl,q⟩:=q1
 obtain ⟨t,rfl⟩:=r1
 exact ⟨some i,H1,I1,.int i t,q⟩
def SlR (X:Cx) (r:V->Option Int->Option Int->Hp->VK->Prop):Prop :=
 ∀(pins:List (Addr×Obj)) (s:Shared) (σ:St) (H:Hp) (x:V) (v vl vu:Value) (lo hi:Option Int) (sl:Addr) (Q:VK),Inv X pins σ H s->qbo x v->s.heap.IsSliceOf sl vl vu .none->IsPart vl lo->IsPart vu hi->r x lo hi H Q ->
   ∃T id,typeLookup (.type T) "__getitem__" = pure (some (.builtin id))/\s.TypeIs v T/\wpAny (model X.prog X.w) X.A (getItem v (.ref sl)) (EP X pins σ Q) X.xe s
def tSl (r:V->Option Int->Option Int->Hp->VK->Prop) (te:TE) (tl th:TO):TE:=fun σ H Q=>te σ H fun x H1=>tl σ H1 fun l H2=>th σ H2 fun u H3=>r x l u H3 Q
theorem qc4 {r:V->Option Int->Option Int->Hp->VK->Prop} (hr:SlR X r) (he:PE X e te) (hl:PO X lo tl) (hu:PO X hi th):PE X (.Subscript e (.Slice lo hi none p2) pos) (tSl r te tl th):=by
 intro pins s σ H Q I h
 refine Subscript_ (thn (he pins s σ H _ I h) fun v s1 ⟨x,H1,I1,r1,q1⟩=>?_)
 refine wpAny_Slice (thn (hl pins s1 σ H1 _ I1 q1) fun vl s2 ⟨l,H2,I2,pl,q2⟩=>thn (hu pins s2 σ H2 _ I2 q2) fun vu s3 ⟨u,H3,I3,pu,q3⟩=>?_)
 rw [evalPart_none]
 refine wpAny_pure ?_
 have I4:Inv X pins σ H3 { s3 with heap:=s3.heap.push { cls := .type "slice",data := .fields #[vl,vu,.none] } }:=I3.kept (t':=s3.toks) fun b ob q=>ycr _ q
 obtain ⟨T,id,hT,ht,hg⟩:=hr pins { s3 with heap:=s3.heap.push { cls := .type "slice",data := .fields #[vl,vu,.none] } } σ H3 x v vl vu l u s3.heap.objs.size Q I4 r1 (Heap.IsSliceOf.new ..) pl pu q3
 show wpAny (model X.prog X.w) X.A (subscriptTail e (.Slice lo hi none p2) v (.ref s3.heap.objs.size)) (EP X pins σ Q) X.xe { s3 with heap:=s3.heap.push { cls := .type "slice",data := .fields #[vl,vu,.none] } }
 exact tail_any (ops:=[.ref s3.heap.objs.size,v]) ht hT hg (by with_unfolding_all rfl)
def qkh (xs:List V) (lo hi:Option Int):List V:=(xs.drop (HT.sIx xs.length 0 lo)).take (HT.sIx xs.length xs.length hi-HT.sIx xs.length 0 lo)
theorem qiL (xs:List V) (lo hi:Option Int):(qkh xs lo hi).length<=xs.length:=by
 unfold qkh
 rw [yee,ybz]
 omega
end
end L2
namespace L2
open PySem PySem.Spec PyProof.Rows
def ixN (n:Nat) (i:Int):Option Nat:=if 0<=i then (if i<n then some i.toNat else none) else if -(n:Int)<=i then some (i+n).toNat else none
def atI {α:Type} (xs:List α) (i:Int):Option α:=(ixN xs.length i).bind fun j=>xs[j]?
theorem qlK {n:Nat} {i:Int} {j:Nat} (h:ixN n i=some j):seqIndex? i n=some j/\j<n/\-(n:Int)<=i/\i<n:=by
 unfold ixN at h
 by_cases h0:0<=i
 . rw [if_pos h0] at h
   by_cases h1:i<n
   . rw [if_pos h1] at h
     have e:i.toNat=j:=Option.some.inj h
     exact ⟨by rw [seqIndex_of h0 h1,e],by omega,by omega,h1⟩
   . rw [if_neg h1] at h;cases h
 . rw [if_neg h0] at h
   by_cases h1:-(n:Int)<=i
   . rw [if_pos h1] at h
     have e:(i+n).toNat=j:=Option.some.inj h
     exact ⟨by rw [seqIndex_neg (by omega) h1,e],by omega,h1,by omega⟩
   . rw [if_neg h1] at h;cases h
theorem qia {α:Type} {xs:List α} {i:Int} {v:α} (h:atI xs i=some v):∃j,seqIndex? i xs.length=some j/\xs[j]?=some v/\j<xs.length/\-(xs.length:Int)<=i/\i<xs.length:=by
 unfold atI at h
 cases e:ixN xs.length i with
 | none=>rw [e] at h;cases h
 | some j =>
   rw [e] at h
   obtain ⟨h1,h2,h3,h4⟩:=qlK e
   exact ⟨j,h1,h,h2,h3,h4⟩
theorem qcG {α:Type} {xs:List α} {j:Nat} {v:α} (h:xs[j]?=some v):atI xs (j:Int)=some v:=by
 have hj:j<xs.length:=(ybr.mp h).1
 have e:ixN xs.length (j:Int)=some j:=by
   unfold ixN
   rw [if_pos (by omega),if_pos (by omega)];simp
 unfold atI;rw [e];exact h
def qqt (b:Expr):Prop:=∀o i,subscripted b false o i=operate [o,i] (getItem o i)
def IxR (X:Cx) (r:R2):Prop :=
 ∀(value slice:Expr) (pins:List (Addr×Obj)) (s:Shared) (σ:St) (H:Hp) (x y:V) (v u:Value) (Q:VK),Inv X pins σ H s->qbo x v->qbo y u->r x y H Q ->
   subscripted slice false v u=operate [v,u] (getItem v u)->wpAny (model X.prog X.w) X.A (subscriptTail value slice v u) (EP X pins σ Q) X.xe s
def MtR (X:Cx) (id:String) (r:V->List V->Hp->VK->Prop):Prop :=
 ∀(pins:List (Addr×Obj)) (s:Shared) (σ:St) (H:Hp) (x:V) (xs:List V) (v:Value) (us:List Value) (Q:VK),Inv X pins σ H s->qbo x v->qa6 xs us->r x xs H Q ->
   wpAny (model X.prog X.w) X.A (call (.builtin id) (v::us)) (EP X pins σ Q) X.xe s
section
variable {X:Cx} {a b:Expr} {ta tb:TE} {pos:Pos}
theorem IxR.or {r r':R2} (h:IxR X r) (h':IxR X r'):IxR X (fun x y H Q=>r x y H Q\/r' x y H Q):=by
 intro value slice pins s σ H x y v u Q I rx ry q hs
 rcases q with q | q
 . exact h value slice pins s σ H x y v u Q I rx ry q hs
 . exact h' value slice pins s σ H x y v u Q I rx ry q hs
theorem qaR {r:R2} (hr:IxR X r) (ha:PE X a ta) (hb:PE X b tb) (hs:qqt b):PE X (.Subscript a b pos) (tOp r ta tb):=by
 intro pins s σ H Q I h
 exact Subscript_ (qsC ha hb I h fun v u s2 x y H2 I2 rx ry q=>hr a b pins s2 σ H2 x y v u Q I2 rx ry q (hs _ _))
def qtJ (K:PySem.W.Frag):R2:=fun x y H Q=>∃p xs i v,x = .ref p/\y = .int i/\SqL K H p xs/\atI xs i=some v/\Q v H
def qtL (K:PySem.W.Frag):R2:=fun x y H Q=>∃p xs i v,x = .ref p/\y = .int i/\SqT K H p xs/\atI xs i=some v/\Q v H
def qtN:R2:=fun x y H Q=>∃z i c,x = .str z/\y = .int i/\z.length<=sizeLine/\atI z.cps.toList i=some c/\Q (.str ⟨#[c]⟩) H
theorem qp7:IxR X (qtJ X.K):=by
 intro value slice pins s σ H x y v u Q I rx ry h hs
 obtain ⟨p,xs,i,z,rfl,rfl,hq,he,q⟩:=h
 cases rx
 obtain ⟨t,rfl⟩:=ry
 obtain ⟨its,r,pl,hz⟩:=I.list hq
 obtain ⟨j,h1,h2,h3,h4,h5⟩:=qia he
 obtain ⟨w,ew,rw'⟩:=r.get h2
 have hl:=r.length
 have hn:=qf5
 have fin:EP X pins σ Q w s:=⟨z,H,I,rw',q⟩
 by_cases h0:0<=i
 . have hj:i.toNat=j:=by
     rw [seqIndex_of h0 h5] at h1
     exact Option.some.inj h1
   exact item_listR pl.isList h0 (by omega) (by rw [hj];simpa using ew) fin hs
 . have hj:(i+(its.toArray.size:Int)).toNat=j:=by
     rw [seqIndex_neg (by omega) h4] at h1
     rw [yen,<-hl]
     exact Option.some.inj h1
   exact subscriptTail_builtinR (x:=w) pl.isList.typeIs slot_list_getitem.lookup
     (wpAny_getItem_list_neg (Q:=fun r s'=>r=w/\EP X pins σ Q r s') pl.isList (by omega) (by rw [yen]<;>omega) (by omega) (by rw [hj];simpa using ew) ⟨rfl,fin⟩) hs
theorem qrt:IxR X (qtL X.K):=by
 intro value slice pins s σ H x y v u Q I rx ry h hs
 obtain ⟨p,xs,i,z,rfl,rfl,hq,he,q⟩:=h
 cases rx
 obtain ⟨t,rfl⟩:=ry
 obtain ⟨its,r,pl,hz⟩:=I.tuple hq
 obtain ⟨j,h1,h2,h3,h4,h5⟩:=qia he
 obtain ⟨w,ew,rw'⟩:=r.get h2
 have hl:=r.length
 have hn:=qf5
 have fin:EP X pins σ Q w s:=⟨z,H,I,rw',q⟩
 exact subscriptTail_builtinR (x:=w) pl.typeIs slot_tuple_getitem.lookup
   (getItem_tuple (j:=j) (Q:=fun r s'=>r=w/\EP X pins σ Q r s') pl (by omega) (by omega) (by rw [yen,<-hl];exact h1) (by simpa using ew) ⟨rfl,fin⟩) hs
theorem qrK:IxR X qtN:=by
 intro value slice pins s σ H x y v u Q I rx ry h hs
 obtain ⟨z,i,c,rfl,rfl,hz,he,q⟩:=h
 obtain ⟨t,rfl⟩:=rx
 obtain ⟨t',rfl⟩:=ry
 obtain ⟨j,h1,h2,h3,h4,h5⟩:=qia he
 have hl:z.cps.toList.length=z.length:=by simp [Str.length]
 rw [hl] at h1 h4 h5
 have hn:=qf5
 exact tail_any (typeIs_str s z t) slot_str_getitem.lookup (getItem_str (c:=c) (by
   have e1:decide (i < -(2^63:Int))=false:=decide_eq_false (by omega)
   have e2:decide (i≥2^63)=false:=decide_eq_false (by omega)
   rw [e1,e2,ydl]) (by rw [h1];simpa using h2) ⟨.str ⟨#[c]⟩,H,I.tok _,I.ts _,q⟩) hs
def rIx (K:PySem.W.Frag):R2:=fun x y H Q=>qtJ K x y H Q\/qtL K x y H Q\/qtN x y H Q
theorem qq2:IxR X (rIx X.K):=qp7.or (qrt.or qrK)
theorem qjR (its:List Value) (n j:Nat) (u:Value):Obj.mapSeq (·.setIfInBounds j u) { cls := .type "list",data := .seq its.toArray n }={ cls := .type "list",data := .seq (its.set j u).toArray n }:=by
 simp [Obj.mapSeq]
theorem Inv.lst {pins:List (Addr×Obj)} {σ:St} {H:Hp} {s:Shared} {p:Addr} {xs:List V} (I:Inv X pins σ H s) (h:H p=some (.lst xs)) :
   ∃(its:List Value) (n:Nat),qa6 xs its/\s.heap.get? p=some { cls := .type "list",data := .seq its.toArray n }/\xs.length<=sizeLine:=by
 obtain ⟨z,its,n,r,e⟩:=I.hok p _ h
 exact ⟨its,n,r,e,z⟩
theorem Inv.lstUpd {pins:List (Addr×Obj)} {σ:St} {H:Hp} {s:Shared} {p:Addr} {xs ys:List V} {its its':List Value} {n n':Nat} {f:Obj->Obj} (I:Inv X pins σ H s) (h:H p=some (.lst xs))
   (ho:s.heap.get? p=some { cls := .type "list",data := .seq its.toArray n }) (hf:f { cls := .type "list",data := .seq its.toArray n }={ cls := .type "list",data := .seq its'.toArray n' }) (r:qa6 ys its') (hz:ys.length<=sizeLine) (t:Nat) (ht:1<=t:=by first | exact ydo 1 _ | assumption | exact Inv.tk (by assumption) | omega) :
   Inv X pins σ (upd H p (.lst ys)) { s with heap:=s.heap.update p f,toks:=t }:=by
 have e:(s.heap.update p f).get? p=some { cls := .type "list",data := .seq its'.toArray n' }:=by
   rw [ycn f ho (by rw [hf]<;>rfl),hf]
 refine I.write (x:=p) (e:=p) (by rw [h];trivial) (.inl rfl) (fun b u hb q=>(yde _ _ (Ne.symm hb)).trans q) ⟨_,e⟩ ?_
 exact ⟨hz,its',n',r,e⟩
def qs2:V->V->V->Hp->(Hp->Prop)->Prop:=fun o i v H Q=>∃p xs k j,o = .ref p/\i = .int k/\H p=some (.lst xs)/\ixN xs.length k=some j/\Q (upd H p (.lst (xs.set j v)))
theorem qn2:qtB X qs2:=by
 intro pins s σ H o i v ov iv u Q I ro ri rv h
 obtain ⟨p,xs,k,j,rfl,rfl,hp,hj,q⟩:=h
 cases ro
 obtain ⟨t,rfl⟩:=ri
 obtain ⟨its,n,r,ho,hz⟩:=I.lst hp
 obtain ⟨h1,h2,h3,h4⟩:=qlK hj
 have hl:=r.length
 have hn:=qf5
 have I':Inv X pins σ (upd H p (.lst (xs.set j v))) { s with heap:=s.heap.update p (Obj.mapSeq (·.setIfInBounds j u)) } :=
   I.lstUpd hp ho (qjR its n j u) (r.set rv j) (by rw [yeo];exact hz) s.toks
 by_cases h0:0<=k
 . have hk:k.toNat=j:=by
     rw [seqIndex_of h0 h4] at h1
     exact Option.some.inj h1
   exact PySem.W.ki_setAt ho h0 (by omega) (by rw [yen,<-hl];exact h4) (by rw [hk];exact ⟨_,I',q⟩)
 . have hk:(k+(its.toArray.size:Int)).toNat=j:=by
     rw [seqIndex_neg (by omega) h3] at h1
     rw [yen,<-hl]
     exact Option.some.inj h1
   exact PySem.W.ki_setBack ho (by omega) (by rw [yen,<-hl];exact h3) (by omega) (by rw [hk];exact ⟨_,I',q⟩)
theorem qhF (lo hi:Option Int) (n:Nat):(sliceBounds lo hi none n).1=((HT.sIx n 0 lo:Nat):Int)/\(sliceBounds lo hi none n).2.1=((HT.sIx n n hi:Nat):Int)/\(sliceBounds lo hi none n).2.2=1:=by
 refine ⟨?_,?_,rfl⟩
 . cases lo with
   | none=>simp [sliceBounds,HT.sIx]
   | some i =>
     simp only [sliceBounds,HT.sIx,Option.getD_none,show (1:Int)>0 by decide,if_true]
     by_cases h:i<0
     . simp only [h,if_true]<;>omega
     . simp only [h,if_false]<;>omega
 . cases hi with
   | none=>simp [sliceBounds,HT.sIx]
   | some i =>
     simp only [sliceBounds,HT.sIx,Option.getD_none,show (1:Int)>0 by decide,if_true]
     by_cases h:i<0
     . simp only [h,if_true]<;>omega
     . simp only [h,if_false]<;>omega
theorem qgo (its:List Value) (lo hi:Option Int):slicePick its.toArray lo hi none=((its.drop (HT.sIx its.length 0 lo)).take (HT.sIx its.length its.length hi-HT.sIx its.length 0 lo)).toArray:=by
 obtain ⟨h1,h2,h3⟩:=qhF lo hi its.toArray.size
 unfold slicePick
 rw [h1,h2,h3]
 simp only [sliceRange_one,pick_run,yen]<;>rfl
def qtP (K:PySem.W.Frag):V->Option Int->Option Int->Hp->VK->Prop:=fun x lo hi H Q=>∃a xs,x = .ref a/\SqL K H a xs/\∀p,H p=none->Q (.ref p) (upd H p (.lst (qkh xs lo hi)))
theorem qqb:SlR X (qtP X.K):=by
 intro pins s σ H x v vl vu lo hi sl Q I rx hs pl pu h
 obtain ⟨a,xs,rfl,hx,q⟩:=h
 cases rx
 obtain ⟨its,r,ht,hz⟩:=I.list hx
 have hlen:=r.length
 refine ⟨"list",_,slot_list_getitem.lookup,ht.isList.typeIs,?_⟩
 refine wpAny_getItem_list_slice ht.isList hs pl pu .none (by simp) ?_ (by rw [yen]<;>omega)
 rw [qgo,<-hlen]
 refine ⟨.ref s.heap.objs.size,_,I.laid (t':=s.toks) (o := .lst (qkh xs lo hi)) (fun b ob q=>ycr _ q) (yax _) ?_,rfl,q _ (I.hok.fresh (yax _))⟩
 exact ⟨ybt (qiL xs lo hi) hz,_,0,(r.drop (HT.sIx xs.length 0 lo)).take (HT.sIx xs.length xs.length hi-HT.sIx xs.length 0 lo),ycq _ rfl⟩
def qb2:V->Bool
 | .non=>true
 | .bl _=>true
 | .int _=>true
 | .str _=>true
 | _=>false
def eqV:V->V->Bool
 | .non,.non=>true
 | .bl a,.bl b=>a==b
 | .bl a,.int b=>(if a then 1 else 0)==b
 | .int a,.bl b=>a==(if b then 1 else 0)
 | .int a,.int b=>a==b
 | .str a,.str b=>a==b
 | _,_=>false
theorem qoL {A:Around} {s:Shared} {y x:V} {u v:Value} (ry:qbo y u) (rx:qbo x v) (fy:qb2 y=true) (fx:qb2 x=true):SeqAt.EqAt A s u v (eqV y x):=by
 cases y with
 | non =>
   cases ry
   cases x with
   | non=>cases rx;exact SeqAt.EqAt.same _
   | bl b=>cases rx;exact SeqAt.EqAt.none_bool b
   | int b=>obtain ⟨t,rfl⟩:=rx;exact SeqAt.EqAt.none_int b t
   | str b=>obtain ⟨t,rfl⟩:=rx;exact SeqAt.EqAt.none_str b _
   | _=>exact absurd (show false=true from fx) ydu
 | bl a =>
   cases ry
   cases x with
   | non=>cases rx;exact SeqAt.EqAt.bool_none a
   | bl b=>cases rx;exact SeqAt.EqAt.bool_bool a b
   | int b=>obtain ⟨t,rfl⟩:=rx;exact SeqAt.EqAt.bool_int a b t
   | str b=>obtain ⟨t,rfl⟩:=rx;exact SeqAt.EqAt.bool_str a b _
   | _=>exact absurd (show false=true from fx) ydu
 | int a =>
   obtain ⟨t',rfl⟩:=ry
   cases x with
   | non=>cases rx;exact SeqAt.EqAt.int_none a t'
   | bl b=>cases rx;exact SeqAt.EqAt.int_bool a t' b
   | int b=>obtain ⟨t,rfl⟩:=rx;exact SeqAt.EqAt.int_int a t' b t
   | str b=>obtain ⟨t,rfl⟩:=rx;exact SeqAt.EqAt.int_str a _ b _
   | _=>exact absurd (show false=true from fx) ydu
 | str a =>
   obtain ⟨t',rfl⟩:=ry
   cases x with
   | non=>cases rx;exact SeqAt.EqAt.str_none a _
   | bl b=>cases rx;exact SeqAt.EqAt.str_bool a _ b
   | int b=>obtain ⟨t,rfl⟩:=rx;exact SeqAt.EqAt.str_int a _ b _
   | str b=>obtain ⟨t,rfl⟩:=rx;exact SeqAt.EqAt.str_str a _ b _
   | _=>exact absurd (show false=true from fx) ydu
 | _=>exact absurd (show false=true from fy) ydu
def eqU (x:V) (u:Value):Bool:=match u with
 | .none=>eqV .non x
 | .bool b=>eqV (.bl b) x
 | .int i _=>eqV (.int i) x
 | .str z _=>eqV (.str z) x
 | _=>false
theorem qoM {x y:V} {u:Value} (r:qbo y u) (f:qb2 y=true):eqU x u=eqV y x:=by
 cases y with
 | non=>cases r;rfl
 | bl b=>cases r;rfl
 | int i=>obtain ⟨t,rfl⟩:=r;rfl
 | str z=>obtain ⟨t,rfl⟩:=r;rfl
 | _=>exact absurd (show false=true from f) ydu
theorem qh4 {x:V}:∀{xs:List V} {us:List Value},qa6 xs us->xs.all qb2=true->us.any (eqU x)=xs.any fun y=>eqV y x
 | _,_,.nil,_=>rfl
 | y::xs,u::us,.cons r t,f=>by
   rw [List.all_cons,yab] at f
   rw [yep,yep,qoM r f.1,qh4 t f.2]
theorem qgU {A:Around} {s:Shared} {x:V} {v:Value} (rx:qbo x v) (fx:qb2 x=true):∀{xs:List V} {us:List Value},qa6 xs us->xs.all qb2=true->∀u∈us,SeqAt.EqAt A s u v (eqU x u)
 | _,_,.nil,_=>fun u hu=>by cases hu
 | y::xs,u::us,.cons r t,f=>fun u' hu=>by
   rw [List.all_cons,yab] at f
   rcases ybd.mp hu with rfl | hu
   . rw [qoM r f.1];exact qoL r rx f.1 fx
   . exact qgU rx fx t f.2 u' hu
def inV (x:V) (xs:List V):Bool:=xs.any fun y=>eqV y x
def rIn (K:PySem.W.Frag) (neg:Bool):R2:=fun x y H Q=>∃p xs,y = .ref p/\(SqL K H p xs\/SqT K H p xs)/\qb2 x=true/\xs.all qb2=true/\Q (.bl (if neg then !inV x xs else inV x xs)) H
theorem qhN:OpR X (compareOp .NotIn) (rIn X.K true):=by
 intro pins s σ H x y v u Q I rx ry h
 obtain ⟨p,xs,rfl,hq,fx,fs,q⟩:=h
 cases ry
 rcases hq with hq | hq
 . obtain ⟨its,r,pl,hz⟩:=I.list hq
   refine SeqAt.notIn_listAt (eqU x) pl.isList (fun w hw=>qgU rx fx r fs w (by simpa using hw)) ⟨.bl _,H,I,rfl,?_⟩
   rw [show its.toArray.any (eqU x)=its.any (eqU x) by simp,qh4 r fs]
   exact q
 . obtain ⟨its,r,pl,hz⟩:=I.tuple hq
   refine SeqAt.notIn_tupleAt (eqU x) pl (fun w hw=>qgU rx fx r fs w (by simpa using hw)) ⟨.bl _,H,I,rfl,?_⟩
   rw [show its.toArray.any (eqU x)=its.any (eqU x) by simp,qh4 r fs]
   exact q
theorem qhf:qcM X (.builtin "len") (fun xs H Q=>∃p ys,xs=[.ref p]/\(SqL X.K H p ys\/SqT X.K H p ys)/\Q (.int ys.length) H):=by
 intro pins s σ H xs us Q I r h
 obtain ⟨p,ys,rfl,hq,q⟩:=h
 obtain ⟨u,rfl,rx⟩:=qfH r
 cases rx
 have hn:=qf5
 rcases hq with hq | hq
 . obtain ⟨its,r',pl,hz⟩:=I.list hq
   have hlen:=r'.length
   exact Calls.call_len_list pl.isList (by simp only [yen]<;>omega) ⟨.int ys.length,H,I.tok _,⟨s.toks+1,by rw [yen,hlen]⟩,q⟩
 . obtain ⟨its,r',pl,hz⟩:=I.tuple hq
   have hlen:=r'.length
   exact len_tuple pl (by simp only [yen]<;>omega) ⟨.int ys.length,H,I.tok _,⟨s.toks+1,by rw [yen,hlen]⟩,q⟩
theorem qhb:qcM X (.builtin "len") (fun xs H Q=>∃z,xs=[.str z]/\z.length<=sizeLine/\Q (.int z.length) H):=by
 intro pins s σ H xs us Q I r h
 obtain ⟨z,rfl,hz,q⟩:=h
 obtain ⟨u,rfl,t,rfl⟩:=qfH r
 have hn:=qf5
 exact len_str (by omega) ⟨.int z.length,H,I.tok _,⟨_,rfl⟩,q⟩
def tyV (K:PySem.W.Frag) (T:String) (x:V) (H:Hp):Prop:=match x with
 | .str _=>T = "str"
 | .int _=>T = "int"
 | .ref p=>(T = "list" /\ ∃xs,SqL K H p xs)\/(T = "tuple" /\ ∃o,K.lookup p=some o/\o.cls = .type "tuple" /\ o.dict=none) \/
     (T = "dict" /\ ((∃kvs,H p=some (.dK kvs))\/∃kvs,H p=some (.dT kvs)))\/(T = "set" /\ ∃S n,H p=some (.set S n))
 | _=>False
theorem qon {pins:List (Addr×Obj)} {σ:St} {H:Hp} {s:Shared} {T:String} {x:V} {v:Value} (I:Inv X pins σ H s) (r:qbo x v) (ty:tyV X.K T x H) :
   s.TypeIs v T/\∀a,v = .ref a->∃ob,s.heap.get? a=some ob/\ob.dict=none:=by
 cases x with
 | str z =>
   obtain ⟨t,rfl⟩:=r
   cases (show T = "str" from ty)
   exact ⟨typeIs_str s z t,fun _ e=>nomatch e⟩
 | int i =>
   obtain ⟨t,rfl⟩:=r
   cases (show T = "int" from ty)
   exact ⟨typeIs_int s i t,fun _ e=>nomatch e⟩
 | ref p =>
   cases r
   rcases ty with ⟨rfl,xs,hq⟩ | ⟨rfl,o,hk,hc,hd⟩ | ⟨rfl,hk⟩ | ⟨rfl,S,n,hk⟩
   . obtain ⟨its,_,pl,_⟩:=I.list hq
     refine ⟨pl.isList.typeIs,fun a e=>?_⟩
     cases e
     obtain ⟨o,n,e,c,hd,_⟩:=pl
     exact ⟨o,e,hd⟩
   . refine ⟨⟨o,I.kIn p o hk,hc⟩,fun a e=>?_⟩
     cases e
     exact ⟨o,I.kIn _ o hk,hd⟩
   . have z:∃o,s.heap.get? p=some o/\o.ExactDict:=by
       rcases hk with ⟨kvs,hk⟩ | ⟨kvs,hk⟩
       . obtain ⟨_,_,_,_,o,_,_,e,ex,_⟩:=I.hok p _ hk
         exact ⟨o,e,ex⟩
       . obtain ⟨_,_,_,_,o,_,_,e,ex,_⟩:=I.hok p _ hk
         exact ⟨o,e,ex⟩
     obtain ⟨o,e,ex⟩:=z
     refine ⟨⟨o,e,ex.1⟩,fun a e2=>?_⟩
     cases e2
     exact ⟨o,e,ex.2.1⟩
   . obtain ⟨o,_,_,_,e,ex,_⟩:=I.hok p _ hk
     refine ⟨⟨o,e,ex.1⟩,fun a e2=>?_⟩
     cases e2
     exact ⟨o,e,ex.2.1⟩
 | _=>exact False.elim ty
def qtT (K:PySem.W.Frag) (T:String) (r:V->List V->Hp->VK->Prop) (to:TE):TE:=fun σ H Q=>to σ H fun x H1=>tyV K T x H1/\r x [] H1 Q
def tBM (K:PySem.W.Frag) (T:String) (r:V->List V->Hp->VK->Prop) (to:TE) (t:TA):TE:=fun σ H Q=>to σ H fun x H1=>tyV K T x H1/\t σ H1 fun xs H2=>r x xs H2 Q
variable {o e:Expr} {es:List Expr} {to:TE} {t:TA} {name:Str} {apos cpos:Pos} {T id:String} {r:V->List V->Hp->VK->Prop}
theorem qq0 (pa:PlainAttrs T) (slot:Slot T name id) (hty:typeOf (.builtin id)=pure (.type "method_descriptor")) (hm:MtR X id r) (ho:PE X o to)
   (hbase:attributeBase o name X.env (eval o X.env)=eval o X.env:=by rfl) (hline:(apos.endLine==cpos.line)=true:=by rfl):PE X (.Call (.Attribute o name apos) [] [] cpos) (qtT X.K T r to):=by
 intro pins s σ H Q I h
 refine wpAny_Call_method0_late hbase hline (thn (ho pins s σ H _ I h) fun v s1 ⟨x,H1,I1,r1,ty,q1⟩=>?_)
 obtain ⟨h1,h2⟩:=qon I1 r1 ty
 exact ⟨T,id,pa,slot,hty,h1,h2,Calls.callWith_builtin rfl (PySem.evalArgs_none (hm pins s1 σ H1 x [] v [] Q I1 r1 .nil q1))⟩
theorem qb3 (pa:PlainAttrs T) (slot:Slot T name id) (hty:typeOf (.builtin id)=pure (.type "method_descriptor")) (hm:MtR X id r) (ho:PE X o to) (ha:PA X (e::es) t)
   (hbase:attributeBase o name X.env (eval o X.env)=eval o X.env:=by rfl)
   (hfew:((backTo cpos (starEach (e::es) X.env)).all (fun x=>!x.1)&&(backToKw cpos (keywordEach [] X.env)).all (fun x=>x.1.isSome)
     && decide ((e::es).length+([]:List Keyword).length+(if ([]:List Keyword).isEmpty then 0 else 1)<30))=true:=by rfl)
   (hline:(apos.endLine==cpos.line)=true:=by rfl) (hs:starEach (e::es) X.env=(false,eval e X.env)::starEach es X.env:=by rfl) (hplain:(backTo cpos (starEach es X.env)).any (·.1)=false:=by rfl) :
   PE X (.Call (.Attribute o name apos) (e::es) [] cpos) (tBM X.K T r to t):=by
 intro pins s σ H Q I h
 refine wpAny_Call_method_late hbase hfew hline rfl (thn (ho pins s σ H _ I h) fun v s1 ⟨x,H1,I1,r1,ty,q1⟩=>?_)
 obtain ⟨h1,h2⟩:=qon I1 r1 ty
 refine ⟨T,id,pa,slot,hty,h1,h2,?_⟩
 have hA:=ha cpos pins s1 σ H1 _ I1 q1
 rw [hs] at hA ⊢
 refine Calls.callWith_builtin (by show (false||(backTo cpos (starEach es X.env)).any (·.1))=false;rw [hplain]<;>rfl) (Calls.evalArgs_plain ?_)
 exact thn hA fun us s2 ⟨vs,H2,I2,r2,q2⟩=>hm pins s2 σ H2 x vs v us Q I2 r1 r2 q2
end
end L2
namespace L2
open PySem PySem.Spec PyProof.Rows
def MtM (X:Cx) (id:String) (r:V->List V->Hp->VK->Prop):Prop :=
 ∀(pins:List (Addr×Obj)) (s:Shared) (σ:St) (H:Hp) (x:V) (xs:List V) (v:Value) (us:List Value) (Q:VK),Inv X pins σ H s->qbo x v->qa6 xs us->r x xs H Q ->
   wpAny (model X.prog X.w) X.A (call (.builtin id) (v::us)) (EP X pins σ Q) X.xe s
theorem qa6.one:∀{x:V} {us:List Value},qa6 [x] us->∃u,us=[u]/\qbo x u
 | _,_,.cons r .nil=>⟨_,rfl,r⟩
section
variable {X:Cx} {pins:List (Addr×Obj)} {σ:St} {H:Hp} {s:Shared} {l b:Addr} {xs ys zs:List V}
theorem Inv.lset {its its':List Value} {n:Nat} {f:Array Value->Array Value} {t':Nat} (I:Inv X pins σ H s) (hH:H l=some (.lst xs))
   (e:s.heap.get? l=some { cls := .type "list",data := .seq its.toArray n }) (hf:f its.toArray=its'.toArray) (hv:qa6 ys its') (hz:ys.length<=sizeLine) (ht:1<=t':=by first | exact ydo 1 _ | assumption | exact Inv.tk (by assumption) | omega) :
   Inv X pins σ (upd H l (.lst ys)) { s with heap:=s.heap.update l (Obj.mapSeq f),toks:=t' }:=by
 have q:=PySem.IsL.update e f
 rw [hf] at q
 refine I.write (x:=l) (e:=l) (by rw [hH];exact trivial) (.inl rfl) (fun b' u hb hu=>(yde s.heap (Obj.mapSeq f) (Ne.symm hb)).trans hu) ⟨_,q⟩ ?_
 exact ⟨hz,its',_,hv,q⟩
theorem Inv.lnew {its:List Value} {t':Nat} (I:Inv X pins σ H s) (hv:qa6 ys its) (hz:ys.length<=sizeLine) (ht:1<=t':=by first | exact ydo 1 _ | assumption | exact Inv.tk (by assumption) | omega) :
   Inv X pins σ (upd H s.heap.objs.size (.lst ys)) { s with heap:=s.heap.push { cls := .type "list",data := .seq its.toArray },toks:=t' } :=
 I.laid (fun _ _ q=>ycr _ q) (yax _) ⟨hz,its,0,hv,ycq _ rfl⟩
theorem Inv.fresh (I:Inv X pins σ H s):H s.heap.objs.size=none:=I.hok.fresh (yax _)
theorem Inv.lstM (I:Inv X pins σ H s) (hH:H l=some (.lst xs)):xs.length<=sizeLine/\∃(its:List Value) (n:Nat),qa6 xs its/\xs.length=its.length/\s.heap.get? l=some { cls := .type "list",data := .seq its.toArray n }:=by
 obtain ⟨z,its,n,r,e⟩:=I.hok l _ hH
 exact ⟨z,its,n,r,r.length,e⟩
end
section
variable {X:Cx}
def qlb:V->List V->Hp->VK->Prop:=fun x vs H Q=>∃l xs y,x = .ref l/\vs=[y]/\H l=some (.lst xs)/\xs.length<sizeLine/\Q .non (upd H l (.lst (xs++[y])))
theorem qbZ:MtM X "list.append" qlb:=by
 intro pins s σ H x vs v us Q I rx rv h
 obtain ⟨l,xs,y,rfl,rfl,hH,hz,q⟩:=h
 cases rx
 obtain ⟨u,rfl,ru⟩:=rv.one
 obtain ⟨z,its,n,r,hl,e⟩:=I.lstM hH
 refine call_meets F.slot_list_append ⟨_,e,rfl⟩ F.entry_list_append (F.args_list_append_2 _ _) (PySem.list_append l its.toArray n u (by rw [yen];omega)) ⟨e,?_⟩
 refine ⟨.non,_,I.lset (its':=its++[u]) hH e (by simp) (r.append (.cons ru .nil)) ?_,rfl,q⟩
 rw [ycm,yeq]
 omega
end
section
variable {prog:Program} {w:World} {A:Around} {E:Value->Shared->Prop} {s:Shared}
set_option maxRecDepth 100000 in
end
section
variable {X:Cx}
end
end L2
namespace L2
open PySem PySem.Spec PyProof.Rows
section
variable {κ:Type} [DecidableEq κ]
def qc0 (kvs:List (κ×V)) (k:κ):Option V:=(kvs.find? fun kv=>decide (kv.1=k)).map (·.2)
def qh2 (kvs:List (κ×V)) (k:κ) (v:V):List (κ×V) :=
 if (kvs.any fun kv=>decide (kv.1=k))=true then kvs.map (fun kv=>if kv.1=k then (kv.1,v) else kv) else kvs++[(k,v)]
theorem qbJ {p:κ×V} {r:List (κ×V)} {k:κ} (e:p.1=k):qc0 (p::r) k=some p.2:=by simp [qc0,yer,e]
theorem qbG {p:κ×V} {r:List (κ×V)} {k:κ} (e:¬p.1=k):qc0 (p::r) k=qc0 r k:=by simp [qc0,yer,e]
theorem qdO (k:κ):∀kvs:List (κ×V),(kvs.any fun kv=>decide (kv.1=k))=(qc0 kvs k).isSome
 | []=>rfl
 | p::r=>by
   rw [yep]
   by_cases e:p.1=k
   . simp only [qbJ e,decide_eq_true e,Bool.true_or,Option.isSome_some]
   . rw [qbG e,decide_eq_false e,Bool.false_or];exact qdO k r
theorem qjn (k j:κ) (y:V):∀kvs:List (κ×V),qc0 (kvs.map fun kv=>if kv.1=k then (kv.1,y) else kv) j=(qc0 kvs j).map fun x=>if j=k then y else x
 | []=>rfl
 | p::r=>by
   have ih:=qjn k j y r
   rw [ych]
   by_cases h:p.1=k
   . rw [if_pos h]
     by_cases e:p.1=j
     . rw [qbJ (p:=(p.1,y)) e,qbJ e,yet,if_pos (e.symm.trans h)]
     . rw [qbG (p:=(p.1,y)) e,qbG e,ih]
   . rw [if_neg h]
     by_cases e:p.1=j
     . rw [qbJ (p:=p) e,qbJ e,yet,if_neg (fun z=>h (e.trans z))]
     . rw [qbG (p:=p) e,qbG e,ih]
theorem qhC (k j:κ) (y:V):∀kvs:List (κ×V),qc0 kvs k=none->qc0 (kvs++[(k,y)]) j=if j=k then some y else qc0 kvs j
 | [],_=>by
   by_cases e:k=j
   . rw [if_pos e.symm];exact qbJ (p:=(k,y)) e
   . rw [if_neg (fun z=>e z.symm)];exact qbG (p:=(k,y)) e
 | p::r,hn=>by
   rw [yeu]
   have hk:¬p.1=k:=fun z=>by rw [qbJ z] at hn;cases hn
   rw [qbG hk] at hn
   have ih:=qhC k j y r hn
   by_cases e:p.1=j
   . rw [qbJ e,qbJ e,if_neg (fun z=>hk (e.trans z))]
   . rw [qbG e,qbG e,ih]
theorem qnW (kvs:List (κ×V)) (k j:κ) (y:V):qc0 (qh2 kvs k y) j=if j=k then some y else qc0 kvs j:=by
 unfold qh2
 by_cases a:(kvs.any fun kv=>decide (kv.1=k))=true
 . rw [if_pos a,qjn]
   rw [qdO] at a
   by_cases e:j=k
   . obtain ⟨x,hx⟩:=yed.mp a
     rw [if_pos e,e,hx,yet,if_pos rfl]
   . rw [if_neg e]
     cases qc0 kvs j with
     | none=>rfl
     | some x=>rw [yet,if_neg e]
 . rw [if_neg a]
   refine qhC k j y kvs ?_
   rw [qdO] at a
   cases q:qc0 kvs k with
   | none=>rfl
   | some x=>rw [q] at a;exact (a rfl).elim
theorem qeW (kvs:List (κ×V)) (k:κ) (v:V):(qh2 kvs k v).length<=kvs.length+1:=by
 unfold qh2
 split
 . rw [ycj];omega
 . rw [ycm,yea,List.length_nil];omega
theorem qhH.isSome_eq {o:Option V} {u:Option Value} (r:qhH o u):o.isSome=u.isSome:=by
 cases o with
 | none=>cases u with
   | none=>rfl
   | some _=>exact (show False from r).elim
 | some _=>cases u with
   | none=>exact (show False from r).elim
   | some _=>rfl
theorem KV.val {kvs:List (κ×V)} {vs:List (κ×Value)} (r:KV kvs vs) (k:κ):qhH (qc0 kvs k) (valueAt vs k):=by
 unfold KV at r
 induction r with
 | nil=>exact True.intro
 | @cons p q ps qs h t ih =>
   obtain ⟨h1,h2⟩:=h
   by_cases e:p.1=k
   . have e':q.1=k:=h1.symm.trans e
     have b:valueAt (q::qs) k=some q.2:=by simp [valueAt,yer,e']
     rw [qbJ e,b];exact h2
   . have e':¬q.1=k:=fun z=>e (h1.trans z)
     have b:valueAt (q::qs) k=valueAt qs k:=by simp [valueAt,yer,e']
     rw [qbG e,b];exact ih
theorem KV.any {kvs:List (κ×V)} {vs:List (κ×Value)} (r:KV kvs vs) (k:κ):(kvs.any fun kv=>decide (kv.1=k))=vs.any fun kv=>decide (kv.1=k):=by
 unfold KV at r
 induction r with
 | nil=>rfl
 | cons h t ih=>rw [yep,yep,ih,h.1]
theorem KV.repl {kvs:List (κ×V)} {vs:List (κ×Value)} (r:KV kvs vs) (k:κ) {y:V} {u:Value} (ry:qbo y u) :
   KV (kvs.map fun kv=>if kv.1=k then (kv.1,y) else kv) (vs.map fun kv=>if kv.1=k then (kv.1,u) else kv):=by
 unfold KV at r ⊢
 induction r with
 | nil=>exact .nil
 | @cons p q ps qs h t ih =>
   rw [ych,ych]
   refine .cons ?_ ih
   obtain ⟨h1,h2⟩:=h
   by_cases e:p.1=k
   . rw [if_pos e,if_pos (h1.symm.trans e)];exact ⟨h1,ry⟩
   . rw [if_neg e,if_neg (fun z=>e (h1.trans z))];exact ⟨h1,h2⟩
theorem KV.put {kvs:List (κ×V)} {vs:List (κ×Value)} (r:KV kvs vs) (k:κ) {y:V} {u:Value} (ry:qbo y u):KV (qh2 kvs k y) (stored vs k u):=by
 unfold qh2 stored
 rw [r.any k]
 by_cases e:(vs.any fun kv=>decide (kv.1=k))=true
 . rw [if_pos e,if_pos e];exact r.repl k ry
 . rw [if_neg e,if_neg e];exact Paired.snoc r ⟨rfl,ry⟩
theorem KV.length {kvs:List (κ×V)} {vs:List (κ×Value)} (r:KV kvs vs):kvs.length=vs.length:=Paired.length r
end
theorem qjI {P:Program} {w:World} {k:Key} {u:Value} (r:qbo (kV k) u):(qbd P w).is k u=true:=by
 cases k with
 | inl i=>obtain ⟨t,e⟩:=(show ∃t,u=Value.int i t from r);subst e;exact qim P w i t
 | inr x=>obtain ⟨t,e⟩:=(show ∃t,u=Value.str x (t+1) from r);subst e;exact qip P w x t
theorem qhK {P:Program} {w:World}:∀{ks:List Key} {us:List Value},qa6 (ks.map kV) us->ItemsAre (qbd P w) ks us
 | [],_,r=>by rw [yem] at r;cases r;exact .nil
 | k::ks,_,r=>by
   rw [ych] at r
   cases r with
   | cons h t=>exact .cons (qjI h) (qhK t)
abbrev KT (H:Hp):List (List Key×V)->List (List Key×Addr×Value)->Prop:=Paired fun p q=>p.1=q.1/\H q.2.1=some (.tup (p.1.map kV))/\qbo p.2 q.2.2
theorem KT.val {H:Hp} {kvs:List (List Key×V)} {xs:List (List Key×Addr×Value)} (r:KT H kvs xs) (k:List Key):qhH (qc0 kvs k) ((atKey xs k).map (·.2)):=by
 induction r with
 | nil=>exact True.intro
 | @cons p q ps qs h t ih =>
   obtain ⟨h1,_,h2⟩:=h
   by_cases e:p.1=k
   . have e':q.1=k:=h1.symm.trans e
     have b:atKey (q::qs) k=some q.2:=by simp [atKey,yer,e']
     rw [qbJ e,b];exact h2
   . have e':¬q.1=k:=fun z=>e (h1.trans z)
     have b:atKey (q::qs) k=atKey qs k:=by simp [atKey,yer,e']
     rw [qbG e,b];exact ih
theorem KT.repl {H:Hp} {kvs:List (List Key×V)} {xs:List (List Key×Addr×Value)} (r:KT H kvs xs) (k:List Key) {y:V} {u:Value} (ry:qbo y u) :
   KT H (kvs.map fun kv=>if kv.1=k then (kv.1,y) else kv) (xs.map (putAt k u)):=by
 induction r with
 | nil=>exact .nil
 | @cons p q ps qs h t ih =>
   rw [ych,ych]
   refine .cons ?_ ih
   obtain ⟨h1,h2,h3⟩:=h
   unfold putAt
   by_cases e:p.1=k
   . rw [if_pos e,if_pos (h1.symm.trans e)];exact ⟨h1,h2,ry⟩
   . rw [if_neg e,if_neg (fun z=>e (h1.trans z))];exact ⟨h1,h2,h3⟩
theorem KT.put {H:Hp} {kvs:List (List Key×V)} {xs:List (List Key×Addr×Value)} (r:KT H kvs xs) (k:List Key) {b:Addr} {y:V} {u:Value} (hb:H b=some (.tup (k.map kV))) (ry:qbo y u) :
   KT H (qh2 kvs k y) (storedH xs k b u):=by
 have e:(kvs.any fun kv=>decide (kv.1=k))=(atKey xs k).isSome:=by
   rw [qdO,(r.val k).isSome_eq,Option.isSome_map]
 unfold qh2 storedH
 rw [e]
 by_cases q:(atKey xs k).isSome=true
 . rw [if_pos q,if_pos q];exact r.repl k ry
 . rw [if_neg q,if_neg q];exact Paired.snoc r ⟨rfl,hb,ry⟩
theorem KT.keeps {H H':Hp} {kvs:List (List Key×V)} {xs:List (List Key×Addr×Value)} (r:KT H kvs xs) (ht:∀b ys,H b=some (.tup ys)->H' b=some (.tup ys)):KT H' kvs xs :=
 Paired.mapP r fun _ _ z=>⟨z.1,ht _ _ z.2.1,z.2.2⟩
section
variable {P:Program} {w:World} {H:Hp} {h:Heap} {a:Addr}
theorem qro {u:HO} (ok:HOk P w H h) (e:Rd H a u):qbs P w H h a u:=e.ok ok
theorem qnG {kvs:List (Key×V)} (ok:HOk P w H h) (e:Rd H a (.dK kvs)):kvs.length<=sizeLine/\(a==sysModules)=false/\∃vs,KV kvs vs/\h.DictOf (qbd P w) a vs :=
 show qbs P w H h a (.dK kvs) from qro ok e
theorem qto {kvs:List (Key×V)} (ok:HOk P w H h) (e:H a=some (.dK kvs)):kvs.length<=sizeLine/\(a==sysModules)=false/\∃vs,KV kvs vs/\h.DictOf (qbd P w) a vs:=qnG ok (.inl e)
theorem qjj {ks:List Key} (ok:HOk P w H h) (e:H a=some (.tup (ks.map kV))):(tupleKind (qbd P w)).is h ks a:=by
 obtain ⟨_,its,r,o,h1,h2,n,h3⟩:=(show qbs P w H h a (.tup (ks.map kV)) from ok a _ e)
 exact ⟨o,its.toArray,n,h1,h2,h3,by simpa using qhK r⟩
theorem qmH {kvs:List (List Key×V)} (ok:HOk P w H h) (e:Rd H a (.dT kvs)):kvs.length<=sizeLine/\(a==sysModules)=false /\
   ∃xs,KT H kvs xs/\h.DictOfH (tupleKind (qbd P w)) a xs:=by
 obtain ⟨z,y,xs,r,o,es,ep,h1,h2,h3,h4,h5⟩:=(show qbs P w H h a (.dT kvs) from qro ok e)
 refine ⟨z,y,xs,r,o,es,ep,h1,h2,h3,h4,fun x hx=>?_,h5⟩
 have all:∀{l:List (List Key×V)} {m:List (List Key×Addr×Value)},KT H l m->∀x∈m,(tupleKind (qbd P w)).is h x.1 x.2.1:=by
   intro l m q
   induction q with
   | nil=>intro x hx;exact nomatch hx
   | @cons p q ps qs hq t ih =>
     intro x hx
     rcases ybd.mp hx with e | hx
     . subst e
       exact qjj ok (by rw [<-hq.1];exact hq.2.1)
     . exact ih x hx
 exact all r x hx
theorem qsV {kvs:List (List Key×V)} (ok:HOk P w H h) (e:H a=some (.dT kvs)):kvs.length<=sizeLine/\(a==sysModules)=false /\
 ∃xs,KT H kvs xs/\h.DictOfH (tupleKind (qbd P w)) a xs:=qmH ok (.inl e)
end
def qkf (H:Hp) (a:Addr) (y:V) (r:Option V):Prop :=
 (∃kvs k,Rd H a (.dK kvs)/\y=kV k/\r=qc0 kvs k)\/∃kvs k b,Rd H a (.dT kvs)/\y = .ref b/\H b=some (.tup (k.map kV))/\r=qc0 kvs k
def qqB (H:Hp) (a:Addr) (y v:V) (H':Hp):Prop :=
 (∃kvs k,H a=some (.dK kvs)/\y=kV k/\kvs.length<sizeLine/\H'=upd H a (.dK (qh2 kvs k v))) \/
 ∃kvs k b,H a=some (.dT kvs)/\y = .ref b/\H b=some (.tup (k.map kV))/\kvs.length<sizeLine/\H'=upd H a (.dT (qh2 kvs k v))
theorem qkf.k {H:Hp} {a:Addr} {kvs:List (Key×V)} {k:Key} (e:H a=some (.dK kvs)):qkf H a (kV k) (qc0 kvs k) := .inl ⟨kvs,k,.inl e,rfl,rfl⟩
theorem qqB.k {H:Hp} {a:Addr} {kvs:List (Key×V)} {k:Key} {v:V} (e:H a=some (.dK kvs)) (hl:kvs.length<sizeLine):qqB H a (kV k) v (upd H a (.dK (qh2 kvs k v))) := .inl ⟨kvs,k,e,rfl,hl,rfl⟩
section
variable {X:Cx} {pins:List (Addr×Obj)} {σ:St} {H:Hp} {s:Shared} {a:Addr} {y v:V} {u r:Value} {o:Option V} {A:Around} {E:Value->Shared->Prop}
theorem Inv.big (I:Inv X pins σ H s):sysModules<s.heap.objs.size:=by
 have h:mainGlobals<s.heap.objs.size:=(I.mod.glob.keeps I.bk).lt
 exact ybl (by decide) h
theorem qmj {Q:Value->Shared->Prop} (hu:A.units+1<cLine) (I:Inv X pins σ H s) (g:qkf H a y (some v)) (ry:qbo y u) (h:∀w' s',Inv X pins σ H s'->qbo v w'->Q w' s') :
   wpAny (model X.prog X.w) A (getItem (.ref a) u) Q E s:=by
 rcases g with ⟨kvs,k,e,ey,l⟩ | ⟨kvs,k,b,e,ey,eb,l⟩
 . subst ey
   obtain ⟨z,hd,vs,rel,dd⟩:=qnG I.hok e
   obtain ⟨w',hw,rw'⟩:=qhH.some_of (v:=v) (o:=valueAt vs k) (by rw [l];exact rel.val k)
   exact wpAny_getItem_of (qjI ry) dd.mapOf hw (h w' _ (I.tok _) rw')
 . subst ey
   cases (show u=Value.ref b from ry)
   obtain ⟨z,hd,xs,rel,dd⟩:=qmH I.hok e
   obtain ⟨w',hw,rw'⟩:=qhH.some_of (v:=v) (o:=(atKey xs k).map (·.2)) (by rw [l];exact rel.val k)
   obtain ⟨p,hp,hp2⟩:=Option.map_eq_some_iff.mp hw
   refine wpAny_getItem_heap (tupleKind_room_in1 hu) (qjj I.hok eb) dd hp ?_
   rw [hp2]
   exact h w' _ (I.tok _) rw'
theorem qqm {Q:Value->Shared->Prop} (hu:A.units+1<cLine) (I:Inv X pins σ H s) (g:qkf H a y o) (ry:qbo y u) (h:∀s',Inv X pins σ H s'->Q (.bool (!o.isSome)) s') :
   wpAny (model X.prog X.w) A (compareOp .NotIn u (.ref a)) Q E s:=by
 rcases g with ⟨kvs,k,e,ey,l⟩ | ⟨kvs,k,b,e,ey,eb,l⟩
 . subst ey
   obtain ⟨z,hd,vs,rel,dd⟩:=qnG I.hok e
   refine wpAny_notIn_of (qjI ry) hd dd.mapOf ?_
   rw [<-(rel.val k).isSome_eq,<-l]
   exact h _ (I.tok _)
 . subst ey
   cases (show u=Value.ref b from ry)
   obtain ⟨z,hd,xs,rel,dd⟩:=qmH I.hok e
   refine wpAny_notIn_heap (tupleKind_room_in1 hu) (qjj I.hok eb) hd dd ?_
   have q:=(rel.val k).isSome_eq
   rw [Option.isSome_map] at q
   rw [<-q,<-l]
   exact h _ (I.tok _)
theorem ql6 {h':Heap} {t':Nat} {ob:HO} (I:Inv X pins σ H s) (mu:Mut (H a)) (hs:Heap.SameBut a s.heap h') (he:∃q,h'.get? a=some q) (new:qbs X.prog X.w (upd H a ob) h' a ob) (ht:1<=t':=by first | exact ydo 1 _ | assumption | exact Inv.tk (by assumption) | omega) :
   Inv X pins σ (upd H a ob) { s with heap:=h',toks:=t' } :=
 I.write (x:=a) (e:=a) mu (.inl rfl) (fun b q hb z=>(hs.2 b hb).trans z) he new
theorem qq4 {P:Program} {w:World} {H':Hp} {h':Heap} {kvs:List (Key×V)} {vs:List (Key×Value)} (z:kvs.length<=sizeLine) (hd:(a==sysModules)=false) (rel:KV kvs vs) (dd:h'.DictOf (qbd P w) a vs) :
 qbs P w H' h' a (.dK kvs):=⟨z,hd,vs,rel,dd⟩
theorem qlR {H':Hp} {Q:Unit->Shared->Prop} (hu:A.units+1<cLine) (I:Inv X pins σ H s) (g:qqB H a y v H') (ry:qbo y u) (rv:qbo v r) (h:∀s',Inv X pins σ H' s'->Q () s') :
   wpAny (model X.prog X.w) A (setItem (.ref a) u r) Q E s:=by
 rcases g with ⟨kvs,k,e,ey,l,eH⟩ | ⟨kvs,k,b,e,ey,eb,l,eH⟩
 . subst ey eH
   obtain ⟨z,hd,vs,rel,dd⟩:=qto I.hok e
   have hz:vs.length<=sizeLine:=by rw [<-rel.length];exact z
   have hl:(qh2 kvs k v).length<=sizeLine:=by have:=qeW kvs k v;omega
   refine wpAny_setItem_pairs (hsz:=hz) (qjI ry) dd fun h' dd' hs=>h _ ?_
   have he:∃q,h'.get? a=some q:=let ⟨q,_,_,hq,_⟩:=dd';⟨q,hq⟩
   exact ql6 I (by rw [e];exact True.intro) hs he (qq4 hl hd (rel.put k rv) dd')
 . subst ey eH
   cases (show u=Value.ref b from ry)
   obtain ⟨z,hd,xs,rel,dd⟩:=qsV I.hok e
   have hz:xs.length<=sizeLine:=by rw [<-Paired.length rel];exact z
   have hl:(qh2 kvs k v).length<=sizeLine:=by have:=qeW kvs k v;omega
   refine wpAny_setItem_heap (hsz:=hz) (tupleKind_room_in1 hu) (qjj I.hok eb) dd fun h' dd' hs=>h _ ?_
   obtain ⟨q,es,ep,hq,h2,h3,h4,_,h5⟩:=dd'
   refine ql6 I (by rw [e];exact True.intro) hs ⟨q,hq⟩ ⟨hl,hd,_,(rel.put k eb rv).keeps fun c ys ec=>?_,q,es,ep,hq,h2,h3,h4,h5⟩
   rw [qaq (qsR ec e (fun z=>nomatch z))]
   exact ec
end
section
variable {X:Cx} {pins:List (Addr×Obj)} {σ:St} {H:Hp} {s:Shared} {a:Addr} {kvs:List (Key×V)} {k:Key} {u:Value} {A:Around} {E:Value->Shared->Prop}
end
def qtq (i:Expr):Prop:=∀ov iv,subscripted i false ov iv=operate [ov,iv] (getItem ov iv)
theorem qlr {prog:Program} {w:World} {A:Around} {E:Value->Shared->Prop} {s:Shared} {env:Env} {value slice:Expr} {pos:Pos} {T id:String} {Q:Value->Shared->Prop}
   (hl:typeLookup (.type T) "__getitem__" = pure (some (.builtin id))) (hs:qtq slice)
   (h:wpAny (model prog w) A (eval value env) (fun o s₁=>wpAny (model prog w) A (eval slice env) (fun i s₂=>s₂.TypeIs o T/\wpAny (model prog w) A (getItem o i) Q E s₂) E s₁) E s) :
   wpAny (model prog w) A (eval (.Subscript value slice pos) env) Q E s:=by
 refine Subscript_ (wpAny_mono h (fun o s₁ h₁=>wpAny_mono h₁ (fun i s₂ h₂=>?_) fun _ _ x=>x) fun _ _ x=>x)
 obtain ⟨hT,h₂⟩:=h₂
 unfold subscriptTail
 refine wpAny_bind ?_
 rw [getitemInPython_of_ne hT.not_modules]
 refine wpAny_bind (wpAny_specialOf hT hl ?_)
 have fin:wpAny (model prog w) A (subscripted slice false o i) (fun r s₃=>wpAny (model prog w) A (letTemporaryGo value o r >>= fun _=>pure r) Q E s₃) E s₂:=by
   rw [hs o i]
   exact wpAny_operating (wpAny_mono h₂ (fun r s₃ h₃=>wpAny_bind (wpAny_letTemporaryGo (wpAny_pure h₃))) fun _ _ x=>x)
 first
   | exact wpAny_pure (wpAny_bind fin)
   | exact wpAny_bind (wpAny_pure (wpAny_bind fin))
   | exact wpAny_bind fin
theorem qh5 {X:Cx} {pins:List (Addr×Obj)} {σ:St} {H:Hp} {s:Shared} {a:Addr} {y:V} {o:Option V} (I:Inv X pins σ H s) (g:qkf H a y o):s.TypeIs (.ref a) "dict" := by
 rcases g with ⟨kvs,k,e,_,_⟩ | ⟨kvs,k,b,e,_,_,_⟩
 . obtain ⟨_,_,vs,_,dd⟩:=qnG I.hok e
   exact dd.typeIs
 . obtain ⟨_,_,xs,_,dd⟩:=qmH I.hok e
   exact dd.typeIs
def qqW (td ty:TE):TE:=fun σ H Q=>td σ H fun x H1=>ty σ H1 fun y H2=>∃a v,x = .ref a/\qkf H2 a y (some v)/\Q v H2
def qub (ty td:TE):TE:=fun σ H Q=>ty σ H fun y H1=>td σ H1 fun x H2=>∃a o,x = .ref a/\qkf H2 a y o/\Q (.bl o.isSome) H2
def qlZ (ty td:TE):TE:=fun σ H Q=>ty σ H fun y H1=>td σ H1 fun x H2=>∃a o,x = .ref a/\qkf H2 a y o/\Q (.bl (!o.isSome)) H2
def qpl (td ty tv:TE):TS:=fun D σ H=>tv σ H fun v H1=>td σ H1 fun x H2=>ty σ H2 fun y H3=>∃a H4,x = .ref a/\qqB H3 a y v H4/\D.nx σ H4
section
variable {X:Cx} {o i e value:Expr} {pos pos' tpos:Pos} {td ty tv:TE}
theorem qqw (hu:X.A.units+1<cLine) (ho:PE X o td) (hi:PE X i ty) (hs:qtq i):PE X (.Subscript o i pos) (qqW td ty):=by
 intro pins s σ H Q I h
 refine qlr yev.lookup hs (thn (ho pins s σ H _ I h) fun u s1 ⟨x,H1,I1,rx,q1⟩=>thn (hi pins s1 σ H1 _ I1 q1) fun iv s2 ⟨y,H2,I2,ry,a,v,ex,g,q2⟩=>?_)
 subst ex
 obtain rfl:u=Value.ref a:=rx
 exact ⟨qh5 I2 g,qmj hu I2 g ry fun w' s3 I3 rw'=>⟨v,H2,I3,rw',q2⟩⟩
theorem qhP (hu:X.A.units+1<cLine) (hi:PE X i ty) (ho:PE X o td):PC X .NotIn i o (qlZ ty td):=by
 intro pins s σ H Q I h
 refine thn (hi pins s σ H _ I h) fun iv s1 ⟨y,H1,I1,ry,q1⟩=>thn (ho pins s1 σ H1 _ I1 q1) fun u s2 ⟨x,H2,I2,rx,a,ov,ex,g,q2⟩=>?_
 subst ex
 obtain rfl:u=Value.ref a:=rx
 exact qqm hu I2 g ry fun s3 I3=>⟨.bl (!ov.isSome),H2,I3,rfl,q2⟩
theorem qpW (hu:X.A.units+1<cLine) (ho:PE X o td) (hi:PE X i ty) (hv:PE X value tv) (hs:swapsWith value (some (.Subscript o i pos')) pos.line X.env=pure false) :
   PS X (.Assign [.Subscript o i pos'] value pos) (qpl td ty tv):=by
 intro pins s σ H D I h
 refine wpAny_Assign_Subscript (thn (hv pins s σ H _ I h) fun r s1 ⟨v,H1,I1,rv,q1⟩=>thn (ho pins s1 σ H1 _ I1 q1) fun u s2 ⟨x,H2,I2,rx,q2⟩=>thn (hi pins s2 σ H2 _ I2 q2) fun iv s3 ⟨y,H3,I3,ry,a,H4,ex,g,q3⟩=>?_) hs
 subst ex
 obtain rfl:u=Value.ref a:=rx
 exact qlR hu I3 g ry rv fun s4 I4=>⟨σ,H4,I4,q3⟩
end
theorem qnA {P:Program} {w:World} {H:Hp} (h:Heap) (hb:sysModules<h.objs.size):qbs P w H (h.push { cls := .type "dict",data := .dict #[] }) h.objs.size (.dK []) :=
 ⟨ybv _,beq_eq_false_iff_ne.mpr (Ne.symm (ycu hb)),[],.nil,Heap.DictOf.new h⟩
def qop:TE:=fun _ H Q=>∀p,H p=none->Q (.ref p) (upd H p (.dK []))
section
variable {X:Cx} {pos:Pos}
theorem qg0:PE X (.Dict [] [] pos) qop:=fun pins s σ H Q I h =>
 wpAny_Dict_empty ⟨.ref s.heap.objs.size,_,I.laid (a:=s.heap.objs.size) (o := .dK []) (t':=s.toks) (fun _ _ q=>ycr _ q) (yax _) (qnA s.heap I.big),rfl,h _ (I.hok.fresh (yax _))⟩
end
structure M1 (X:Cx) (o:Expr) (m:Str) (apos:Pos) (e:Expr) (cpos:Pos):Prop where
 base:attributeBase o m X.env (eval o X.env)=eval o X.env
 few:((backTo cpos (starEach [e] X.env)).all (fun x=>!x.1)&&(backToKw cpos (keywordEach [] X.env)).all (fun x=>x.1.isSome)
   && decide (([e]:List Expr).length+([]:List Keyword).length+(if ([]:List Keyword).isEmpty then 0 else 1)<30))=true
 line:(apos.endLine==cpos.line)=true
 trees:backTo cpos (starEach [e] X.env)=[(false,eval e X.env)]
structure M2 (X:Cx) (o:Expr) (m:Str) (apos:Pos) (e f:Expr) (cpos:Pos):Prop where
 base:attributeBase o m X.env (eval o X.env)=eval o X.env
 few:((backTo cpos (starEach [e,f] X.env)).all (fun x=>!x.1)&&(backToKw cpos (keywordEach [] X.env)).all (fun x=>x.1.isSome)
   && decide (([e,f]:List Expr).length+([]:List Keyword).length+(if ([]:List Keyword).isEmpty then 0 else 1)<30))=true
 line:(apos.endLine==cpos.line)=true
 trees:backTo cpos (starEach [e,f] X.env)=[(false,eval e X.env),(false,eval f X.env)]
section
variable {X:Cx} {pins:List (Addr×Obj)} {σ:St} {H:Hp} {s:Shared} {a:Addr} {y d:V} {u r:Value} {o:Option V} {A:Around} {E:Value->Shared->Prop}
end
section
variable {X:Cx} {o e f:Expr} {apos cpos:Pos} {td ty tx:TE}
end
section
variable {X:Cx} {pins:List (Addr×Obj)} {σ:St} {H:Hp} {s:Shared} {a:Addr} {kvs:List (Key×V)} {A:Around} {E:Value->Shared->Prop}
end
section
variable {X:Cx} {pins:List (Addr×Obj)} {σ:St} {H:Hp} {s:Shared} {a:Addr} {y:V} {u:Value} {A:Around} {E:Value->Shared->Prop}
end
end L2
namespace Att
open PySem PySem.W PySem.Calls PyProof.Rows
theorem qfa {P:Params} {h:Heap}:∀(ns:List Int) (vs:List Value),WellAll P h vs (ns.map WData.int)->IntsAre vs ns:=by
 intro ns
 induction ns with
 | nil =>
   intro vs w
   rw [yem] at w
   cases w
   exact .nil
 | cons n ns ih =>
   intro vs w
   rw [ych] at w
   cases w with
   | cons a b =>
     cases a
     exact .cons _ _ (ih _ b)
theorem qlo {l:OpenLaw} {n:Nat} (hn:l.most=some n) {P:Params} {h:Heap} {args:List WData} {vals:List Value}
   (hpre:l.row.toRowW.claim.pre args=true) (hwl:WellAll P h vals args) :
   ∃a vs ns,vals=[Value.ref a]/\args=[WData.list (ns.map WData.int)]/\h.get? a=some { cls := .type "list",data := .seq vs.toArray }/\IntsAre vs ns/\ns.length<=n:=by
 have hsh:WShape.hasAll [] args [.list .int]=true:=(pre_splitW hpre).1
 have hc:l.pre.holds [] { args:=args }=true:=(pre_splitW hpre).2
 obtain ⟨d,r,rfl,h1,h2⟩:=hasAllW_cons hsh
 obtain rfl:=hasAllW_nil h2
 obtain ⟨xs,rfl,h3⟩:=hasW_list h1
 obtain ⟨ns,rfl⟩:=items_int h3
 have hlen:ns.length<=n:=by
   unfold OpenLaw.pre at hc
   have h4:(WTm.not (.lt (.lit (.int (n:Int))) (.len (.arg 0)))).holds [] { args:=[.list (ns.map .int)] }=true:=by
     have h4:=(holds_andW hc).1
     rw [hn] at h4
     exact h4
   have h5:=condW_of h4 (w_not (w_lt w_lit (w_len_list (w_arg rfl))))
   rw [ycj] at h5
   refine Nat.le_of_not_lt fun q=>?_
   have q':(n:Int)<((ns.length:Nat):Int):=by omega
   first
     | (rw [decide_eq_true q'] at h5;exact absurd h5 (by decide))
     | (simp at h5;omega)
 cases hwl with
 | cons w1 w2 =>
   cases w2
   cases w1 with
   | list ho hall=>exact ⟨_,_,ns,rfl,rfl,ho,qfa ns _ hall,hlen⟩
theorem qmp (l:OpenLaw) (args:List WData):l.row.toRowW.claim.post args (.bool true) args=true :=
 postW_of (r:=l.row.toRowW) (X:=(true==true))
   (show WShape.has [] (.bool true) .bool=true by first | rfl | decide | simp [WShape.has,WShape.arms,WShape.armsAll])
   (show (WTm.eq .res (.lit (.bool true))).value [] { args:=args,res:=some (.bool true),after:=args }=some (.bool (true==true)) from w_eq_bool (w_res rfl) w_lit) rfl
theorem attach_call {l:OpenLaw} {n:Nat} {q:Program} {loose:List Str} {XP:(Str->Option Value)->Heap->Prop} {YP:World->Heap->Prop} {d:DefRec}
   (hn:l.most=some n) (hdf:d.params.defaults=[])
   (call:∀(w:World) (s₀ s₁:Shared) (mg mb:Str->Option Value) (fa:Addr) (o:Obj) (pm cd doc:Value) (a:Addr) (vs:List Value) (ns:List Int),
     Ground q loose [] XP w s₀ mg mb s₁.heap->YP w s₁.heap ->
     s₁.heap.get? fa=some o->o.data = .func (docDef d.name d.params d.body d.scope pm cd doc)->s₁.heap.CodeRec cd d.name->mg d.name=some (.ref fa) ->
     s₁.heap.get? a=some { cls := .type "list",data := .seq vs.toArray }->IntsAre vs ns->ns.length<=n->s₁.gens = #[] ->
     codeAny (model l.prog w) callerA (.call (.ref fa) ⟨[.ref a],[]⟩) (fun r s'=>r = .ok (.ret (.bool true))/\OldK s₁.heap s'.heap/\s'.os=s₁.os/\AllBare s'.gens) s₁) :
   WalkO q loose XP YP l.row.toRowW d [] (fun f vs=>PySem.call f vs):=by
 intro w s₀ s₁ mg mb G Y fa o pm cd doc dV kV ho hd hcd hD hmg hg args vals as hpre hlay hrd hwl hlo
 obtain rfl:dV = .none:=Dflts.none hD hdf
 obtain rfl:kV = .none:=Dflts.noKw hD
 obtain ⟨a,vs,ns,rfl,rfl,hobj,hints,hlen⟩:=qlo hn hpre hwl
 refine enter_call (codeAny_mono (call w s₀ s₁ mg mb fa o pm cd doc a vs ns G Y ho (fd_plain hd) hcd hmg hobj hints hlen hg) fun r s' hq=>?_)
 obtain ⟨rfl,h2,h3,h4⟩:=hq
 exact ⟨.inl ⟨.bool true,.bool true,[],rfl,fun _=>rfl,.bool true,qmp l _,fun _=>⟨List.Pairwise.nil,fun _ hm=>(nomatch hm)⟩⟩,h2,h3,h4⟩
section
variable {prog:Program} {w:World} {A:Around} {E:Value->Shared->Prop} {s:Shared} {K:Frag}
end
end Att
namespace L2
open PySem PySem.Spec PyProof.Rows
theorem qdY:∀{vs:List Value} {ns:List Int},IntsAre vs ns->qa6 (ns.map V.int) vs
 | _,_,.nil => .nil
 | _,_,.cons n t h => .cons ⟨t,rfl⟩ (qdY h)
def qtm (H:Hp):Prop:=∀b,H b=none\/∃o xs,H b=some (.frz o (.lst xs))
theorem qn1 {P:Program} {w:World} {K:PySem.W.Frag} {mg mb:Str->Option Value} {CX:CXT} {k:Nat} {fa a:Addr} {fd:FuncData} {x:Str} {sp:Sp} {s₁:Shared} {vs:List Value} {ns:List Int}
   (KX:K.In s₁.heap) (hns:s₁.heap.Ns mainGlobals mg) (hb:s₁.heap.Ns builtinsNs mb) (hbb:∀x:Str,x ≠ "__name__" -> mb x=bootBuiltins x) (hlim:s₁.heap.NoLimit) (hg:s₁.gens = #[])
   (ha:s₁.heap.get? a=some { cls := .type "list",data := .seq vs.toArray }) (hi:IntsAre vs ns) (hl:ns.length<=sizeLine) (hr:qc3 k callerA)
   (F:∀base:Heap,K.In base->base.Ns mainGlobals mg->qaM P w K mg base CX k fa fd [x] sp) (hbind:∀(s:Shared) (u:Value),BindsTo s fd ⟨[u],[]⟩ [(x,u)]) (hlo:fd.scope.names.lookup x=some .local)
   (hsp:∀H:Hp,qtm H->SqL K H a (ns.map V.int)->sp [.ref a] H (fun v _=>v = .bl true) fun _ _ _=>False)
   (hCX:∀H e s',CX [] H s₁ (fun _ _ _=>False) e s'->False) :
   codeAny (model P w) callerA (.call (.ref fa) ⟨[.ref a],[]⟩) (fun r s'=>r = .ok (.ret (.bool true))/\OldK s₁.heap s'.heap/\s'.os=s₁.os/\AllBare s'.gens) s₁:=by
 have rv:=qdY hi
 have lenV:=hi.length
 -- from an abstract heap in which nothing but the script may be tracked
 have core:∀H:Hp,qtm H->SqL K H a (ns.map V.int)->HOk P w H s₁.heap->(∀b,H b≠none->b=a)->(H a≠none->K.lookup a=none) ->
     codeAny (model P w) callerA (.call (.ref fa) ⟨[.ref a],[]⟩) (fun r s'=>r = .ok (.ret (.bool true))/\OldK s₁.heap s'.heap/\s'.os=s₁.os/\AllBare s'.gens) s₁:=by
   intro H hO hS hok hA hK
   have base_of:∀{b:Addr} {o:Obj},s₁.heap.get? b=some o->H b=none->(qnY s₁.heap H).get? b=some o:=fun e n=>qm8 e n
   have noA:∀{b:Addr} {o:Obj} {es:Array DictEntry} {ep:Nat},s₁.heap.get? b=some o->o.data = .dict es ep->H b=none:=fun {b o es ep} e d=>by
     cases q:H b with
     | none=>rfl
     | some u =>
       have e':b=a:=hA b (by rw [q];simp)
       subst e'
       rw [ha] at e;cases e
       have d':Data.seq vs.toArray _=Data.dict es ep:=d
       cases d'
   have nsK:∀{b:Addr} {m:Str->Option Value},s₁.heap.Ns b m->(qnY s₁.heap H).Ns b m:=fun {b m} ⟨o,es,ep,e,d,r⟩=>⟨o,es,ep,base_of e (noA e d),d,r⟩
   have hKb:K.In (qnY s₁.heap H):=fun b o e=>base_of (KX b o e) (by
     cases q:H b with
     | none=>rfl
     | some u =>
       have e':b=a:=hA b (by rw [q];simp)
       subst e'
       rw [hK (by rw [q];simp)] at e;cases e)
   have hM:Mod K mg (qnY s₁.heap H):=⟨hKb,nsK hns,⟨mb,nsK hb,hbb⟩,let ⟨mc,h1,h2⟩:=hlim;⟨mc,nsK h1,h2⟩⟩
   have e0:qpS P w K mg (qnY s₁.heap H) callerA [] s₁ H:=⟨rfl,hM,fun b o e=>qqn e,ydh (qkj _ _),trivial,fun b hb=>absurd (show b∈([]:List Addr) from hb) (by simp),hok,.of_eq hg⟩
   refine codeAny_mono ((F _ hKb (nsK hns)).run callerA [] s₁ H ⟨[.ref a],[]⟩ [.ref a] [.ref a] _ _ hr (.inr ⟨x,rfl,hlo⟩) e0 (hbind s₁ (.ref a)) (.cons rfl .nil) (hsp H hO hS)) fun r s' h=>?_
   cases r with
   | error e=>exact (hCX H e s' h).elim
   | ok fl =>
     cases fl with
     | next=>exact False.elim h
     | brk=>exact False.elim h
     | cont=>exact False.elim h
     | ret u =>
       obtain ⟨v,H',os,bare,un,hok',r',_,q⟩:=h
       have q':v = .bl true:=q
       subst q'
       obtain rfl:u=Value.bool true:=r'
       refine ⟨rfl,OldK.of_keep fun b o e=>?_,os,bare⟩
       cases q:H b with
       | none=>exact un.keep b o e q (by intro z;exact absurd (show b∈([]:List Addr) from z) (by simp)) (by simp)
       | some u =>
         rcases hO b with z | ⟨ob,xs,z⟩
         . rw [q] at z;cases z
         . have z2:=un.frzs b ob _ z
           obtain ⟨e1,_⟩:=hok b _ z
           obtain ⟨e2,_⟩:=hok' b _ z2
           rw [e] at e1;cases e1
           exact e2
 cases hk:K.lookup a with
 | some o =>
   -- the script is one of the module's own objects
   have e:=KX a o hk
   rw [ha] at e
   cases e
   refine core (fun _=>none) (fun _ => .inl rfl) (.inr ⟨_,vs.toArray,_,hk,rfl,rfl,rfl,by rw [yen,lenV];exact hl,by simpa using rv⟩) (fun b u z=>by have z':(none:Option HO)=some u:=z;cases z') (fun b z=>absurd rfl z) fun z=>absurd rfl z
 | none =>
   refine core (fun b=>if b=a then some (.frz { cls := .type "list",data := .seq vs.toArray } (.lst (ns.map V.int))) else none) (fun b=>?_) (.inl (.inr ⟨{ cls := .type "list",data := .seq vs.toArray },if_pos rfl⟩)) (fun b u z=>?_) (fun b z=>?_) fun _=>hk
   . by_cases hb:b=a
     . exact .inr ⟨_,_,if_pos hb⟩
     . exact .inl (if_neg hb)
   . by_cases hb:b=a
     . have z':=(if_pos hb).symm.trans z
       cases z'
       subst hb
       exact ⟨ha,by rw [ycj];exact hl,vs,_,rv,ha⟩
     . have z':=(if_neg hb).symm.trans z
       cases z'
   . by_cases hb:b=a
     . exact hb
     . exact absurd (if_neg hb) z
end L2
namespace L2
open PySem PySem.Spec PyProof.Rows
theorem walk_of {l:PySem.W.OpenLaw} {n k:Nat} {q:Program} {loose:List Str} {XP:(Str->Option Value)->Heap->Prop} {YP:World->Heap->Prop} {d:DefRec} {K:Params->PySem.W.Frag} {CX:World->CXT} {sp:World->Sp} {x:Str}
   (hn:l.most=some n) (hn2:n<=sizeLine) (hdf:d.params.defaults=[]) (hr:qc3 k callerA)
   (hY:∀(w:World) (h:Heap),YP w h->(K w.params).In h)
   (F:∀(w:World) (mg:Str->Option Value) (fa:Addr) (h:Heap),(K w.params).In h->h.Ns mainGlobals mg->mg d.name=some (.ref fa) ->
     ∃fd:FuncData,(∀(s:Shared) (u:Value),BindsTo s fd ⟨[u],[]⟩ [(x,u)])/\fd.scope.names.lookup x=some .local /\
       ∀base:Heap,(K w.params).In base->base.Ns mainGlobals mg->qaM l.prog w (K w.params) mg base (CX w) k fa fd [x] (sp w))
   (hsp:∀(w:World) (H:Hp) (a:Addr) (ns:List Int),ns.length<=n->qtm H->SqL (K w.params) H a (ns.map V.int)->sp w [.ref a] H (fun v _=>v = .bl true) fun _ _ _=>False)
   (hCX:∀(w:World) (H:Hp) (s:Shared) (e:Value) (s':Shared),CX w [] H s (fun _ _ _=>False) e s'->False) :
   PySem.W.WalkO q loose XP YP l.row.toRowW d [] (fun f vs=>PySem.call f vs):=by
 refine Att.attach_call hn hdf fun w s₀ s₁ mg mb fa o pm cd doc a vs ns G Y ho hd hcd hmg hobj hints hlen hg=>?_
 have KX:=hY w _ Y
 obtain ⟨fd,hb,hlo,hF⟩:=F w mg fa _ KX G.T.g hmg
 exact qn1 KX G.T.g G.T.b G.T.builtins G.T.nolimit hg hobj hints (ybt hlen hn2) hr hF hb hlo (fun H hO hS=>hsp w H a ns hlen hO hS) fun H e s'=>hCX w H s₁ e s'
end L2
namespace L2
open PySem PySem.Spec PyProof.Rows
def qfs (s:Stmt) (j:Nat):Stmt:=match s with
 | .ClassDef _ _ _ body _ _ _ _ _ _ _=>body.getD j (.Pass ⟨0,0,0,0⟩)
 | _ => .Pass ⟨0,0,0,0⟩
def qak (s:Stmt):Arguments:=match s with
 | .FunctionDef _ a _ _ _ _ _ _ _ _=>a
 | _=>{ posonlyargs:=[],args:=[],vararg:=none,kwonlyargs:=[],kw_defaults:=[],kwarg:=none,defaults:=[] }
def qaj (s:Stmt):List Stmt:=match s with
 | .FunctionDef _ _ b _ _ _ _ _ _ _=>b
 | _=>[]
def qab (s:Stmt):Scope:=match s with
 | .FunctionDef _ _ _ _ _ _ sc _ _ _=>sc
 | _=>{ kind := .function,names:=[],isGenerator:=false,isCoroutine:=false }
abbrev CX0:CXT:=fun _ _ _ _ _ _=>False
abbrev E0:XK:=fun _ _ _=>False
theorem qra {X:Cx}:qch CX0 X E0:=fun _ _ _ _ _ _ _ h=>h.elim
structure Fun (K:PySem.W.Frag) (x qual:Str) (st:Stmt) (f:Addr) (fd:FuncData):Prop where
 ex:∃(oc:Value) (od:Option Addr) (kV doc pm:Value) (an:Option Addr) (cdv ct:Value) (osl:Array (Option Value)),
   fd=PySem.W.fnOf x qual (qak st) (qaj st) (qab st) .none kV doc pm an cdv ct/\K.lookup f=some ⟨oc,od,.func fd,osl⟩/\PySem.W.codeIn K cdv qual=true
 kp:PySem.W.keepIn K (.ref f)=true
section
variable {P:Program} {w:World} {K:PySem.W.Frag} {mg:Str->Option Value} {base:Heap}
theorem Fun.ok {x qual:Str} {st:Stmt} {f:Addr} {fd:FuncData} {N ps:List Str} {k:Nat} {sp:Sp} (F:Fun K x qual st f fd) (S:qal N ps (qab st)) (len:∀vs H Q E,sp vs H Q E->vs.length=ps.length)
   (hbody:∀(cdv:Value) (A:Around) (outer:List Env) (s:Shared) (H:Hp) (vs:List V) (Q:VK) (E:XK),qc3 k (A.deeper (envOfC qual (qab st) s.heap.objs.size f cdv))->sp vs H Q E ->
     ∃t,PSs (qg6 CX0 P w K mg base N qual (qab st) f cdv A outer s H E).nox (qaj st) t/\t { nx:=fun _ H'=>Q .non H',rt:=Q } (qgr N vs) H):qaM P w K mg base CX0 (k+1) f fd ps sp:=by
 obtain ⟨oc,od,kV,doc,pm,an,cdv,ct,osl,rfl,lk,hcd⟩:=F.ex
 refine qq9 lk hcd S len fun A outer s H vs Q E hr hsp=>?_
 obtain ⟨t,h,q⟩:=hbody cdv A outer s H vs Q E hr hsp
 exact ⟨t,h.nox,q⟩
theorem Fun.binds {x qual:Str} {st:Stmt} {f:Addr} {fd:FuncData} {ps:List Str} (F:Fun K x qual st f fd)
   (h:∀(kV doc pm:Value) (an:Option Addr) (cdv ct:Value) (us:List Value),us.length=ps.length->bindArgs (PySem.W.fnOf x qual (qak st) (qaj st) (qab st) .none kV doc pm an cdv ct) ⟨us,[]⟩=pure (ps.zip us)):qdr K fd ps []:=by
 obtain ⟨oc,od,kV,doc,pm,an,cdv,ct,osl,rfl,lk,hcd⟩:=F.ex
 exact .all (h kV doc pm an cdv ct)
theorem qan {x qual:Str} {st:Stmt} {f:Addr} {oc:Value} {od an:Option Addr} {osl:Array (Option Value)} {kV doc pm cdv ct:Value} (l:K.lookup f=some ⟨oc,od,.func (PySem.W.fnOf x qual (qak st) (qaj st) (qab st) .none kV doc pm an cdv ct),osl⟩)
 (c:PySem.W.codeIn K cdv qual=true) (k:PySem.W.keepIn K (.ref f)=true):Fun K x qual st f (PySem.W.fnOf x qual (qak st) (qaj st) (qab st) .none kV doc pm an cdv ct):=⟨⟨oc,od,kV,doc,pm,an,cdv,ct,osl,rfl,l,c⟩,k⟩
end
theorem qmL {A:Around} {k:Nat} (hr:qc3 k A):A.units+1<cLine:=ybi (Nat.add_le_add_left (by decide:1<=64) _) hr.units
section
variable {X:Cx}
theorem pv (i:Nat) {x:Str} {pos:Pos} (hN:X.N[i]?=some x:=by rfl) (hv:Vis X.env.scope x:=by first | exact Or.inl rfl | exact Or.inr (Or.inl rfl) | exact Or.inr (Or.inr rfl)) (hd:(x==("__debug__" : Str))=false:=by decide)
 (hcd:(x==("__classdict__" : Str))=false:=by decide):PE X (.Name x pos) (qtx i):=qrP hN hv hd hcd
end
theorem qfy {A B:Prop} (h:B):if false=true then A else B:=by
 rw [if_neg ydu]
 exact h
theorem qha {A B:Prop} (h:A):if true=true then A else B:=by
 rw [if_pos rfl]
 exact h
theorem qoC {c A B:Prop} [Decidable c] (h1:c->A) (h2:¬c->B):if c then A else B:=by
 by_cases h:c
 . rw [if_pos h]
   exact h1 h
 . rw [if_neg h]
   exact h2 h
def qas (H H':Hp):Prop:=∀b o,H b=some o->H' b=some o
theorem qas.refl (H:Hp):qas H H:=fun _ _ h=>h
theorem qas.trans {H H1 H2:Hp} (a:qas H H1) (b:qas H1 H2):qas H H2:=fun c o h=>b c o (a c o h)
theorem qas.seq {K:PySem.W.Frag} {H H':Hp} {a:Addr} {xs:List V} (e:qas H H') (h:SqL K H a xs):SqL K H' a xs:=by
 rcases h with (h | ⟨o,h⟩) | h
 . exact .inl (.inl (e _ _ h))
 . exact .inl (.inr ⟨o,e _ _ h⟩)
 . exact .inr h
end L2
namespace L2
open PySem
theorem qds {env:Env}:∀(names:List (Str×NameKind)) (init:List (Str×Addr)),(∀n k,(n,k)∈names->k = .free->∃c,env.cells.lookup n=some c) ->
   (∀n c,init.lookup n=some c->env.cells.lookup n=some c) ->
   ∃cl,(forIn names init fun (x:Str×NameKind) (cs:List (Str×Addr))=>(match x with
     | (name,kind)=>if (kind==NameKind.free)=true then (do let a <-cellOf env name;pure (ForInStep.yield ((name,a)::cs))) else pure (ForInStep.yield cs):Sem (ForInStep (List (Str×Addr)))))=(pure cl:Sem (List (Str×Addr))) /\
     (∀n c,cl.lookup n=some c->env.cells.lookup n=some c)/\(∀n,(n,NameKind.free)∈names\/(∃c,init.lookup n=some c)->∃c,cl.lookup n=some c)
 | [],init,_,h1=>⟨init,rfl,h1,fun n h=>by rcases h with h | h;cases h;exact h⟩
 | (nm,k)::r,init,h0,h1=>by
   by_cases hk:k = .free
   . obtain ⟨c,hc⟩:=h0 nm k ybb hk
     have h1':∀n c',((nm,c)::init).lookup n=some c'->env.cells.lookup n=some c':=fun n c' e=>by
       rw [yew] at e
       split at e
       . rename_i he
         have:n=nm:=by simpa using he
         subst this;cases e;exact hc
       . exact h1 n c' e
     obtain ⟨cl,e1,e2,e3⟩:=qds r ((nm,c)::init) (fun n k' hm=>h0 n k' (ybe _ hm)) h1'
     refine ⟨cl,?_,e2,fun n hn=>e3 n ?_⟩
     . rw [yej]
       subst hk
       have:cellOf env nm=pure c:=by unfold cellOf;rw [hc]
       simp only [this]
       exact e1
     . rcases hn with hn | ⟨c',hn⟩
       . rcases ybd.mp hn with e | e
         . cases e
           exact .inr ⟨c,by simp [yew]⟩
         . exact .inl e
       . right
         rw [yew]
         split
         . exact ⟨_,rfl⟩
         . exact ⟨c',hn⟩
   . obtain ⟨cl,e1,e2,e3⟩:=qds r init (fun n k' hm=>h0 n k' (ybe _ hm)) h1
     refine ⟨cl,?_,e2,fun n hn=>e3 n ?_⟩
     . rw [yej]
       have:(k==NameKind.free)=false:=by simpa using hk
       simp only [this]
       exact e1
     . rcases hn with hn | hn
       . rcases ybd.mp hn with e | e
         . cases e;exact absurd rfl hk
         . exact .inl e
       . exact .inr hn
theorem qcY {scope:Scope} {env:Env} (h:∀n,(n,NameKind.free)∈scope.names->∃c,env.cells.lookup n=some c) :
   ∃cl,closureFor scope env=pure cl/\(∀n c,cl.lookup n=some c->env.cells.lookup n=some c)/\(∀n,(n,NameKind.free)∈scope.names->∃c,cl.lookup n=some c):=by
 obtain ⟨cl,e1,e2,e3⟩:=qds (env:=env) scope.names [] (fun n k hm hk=>h n (hk▸hm)) (fun n c e=>by cases e)
 refine ⟨cl,?_,e2,fun n hn=>e3 n (.inl hn)⟩
 have e:closureFor scope env=((forIn scope.names ([]:List (Str×Addr)) fun (x:Str×NameKind) (cs:List (Str×Addr))=>(match x with
     | (name,kind)=>if (kind==NameKind.free)=true then (do let a <-cellOf env name;pure (ForInStep.yield ((name,a)::cs))) else pure (ForInStep.yield cs):Sem (ForInStep (List (Str×Addr))))) >>= fun r=>pure r):=rfl
 rw [e,e1]
 rfl
end L2
namespace L2
open PySem PySem.Spec PyProof.Rows
section
variable {X:Cx} {pins:List (Addr×Obj)} {σ:St} {H:Hp} {s:Shared}
theorem Inv.track {p:Addr} {o:HO} (I:Inv X pins σ H s) (f:qh3 X pins H p) (new:qbs X.prog X.w (upd H p o) s.heap p o):Inv X pins σ (upd H p o) s:=by
 obtain ⟨f0,f1,f2,f3,f4,f5⟩:=f
 have nit:∀b u,H b=some u->b≠p:=fun b u e z=>by rw [z,f0] at e;cases e
 refine I.step (h':=s.heap) (g':=s.gens) (d':=s.drawn) (t':=s.toks) (ch:=[p]) (fun b hb=>?_) (fun b o _ _ _ e _=>e) (fun b o _ _ _ e _=>⟨o.slots,e⟩)
   (fun b o hc e n=>by rw [qaq (fun z=>hc (by simp [z]))];exact n) (fun b o _ e=>⟨o,e⟩) (fun b xs e=>by rw [qaq (nit b _ e)];exact e) (fun b o u e=>by rw [qaq (nit b _ e)];exact e)
   (fun b ps e=>⟨#[],by rw [qaq (nit b _ e),e];simp⟩) (fun m hm=>hm) (fun b u e=>?_) I.bare
 . have e:b=p:=by simpa using hb
   subst e
   exact ⟨f3,f1,f4,f5⟩
 . by_cases hb:b=p
   . subst hb;rw [qai] at e;cases e;exact new
   . rw [qaq hb] at e
     exact (I.hok b u e).stay (fun c v _ q=>q) (fun c q=>by rw [qaq (nit c _ q)];exact q) fun c xs q=>by rw [qaq (nit c _ q)];exact q
end
section
variable {prog:Program} {w:World} {A:Around} {R:Result->Shared->Prop} {s:Shared}
theorem qhO {elt target iter:Expr} {ifs:List Expr} {scope:Scope} {pos:Pos} {it acc:Value} {env:Env} (I:Nat->Shared->Prop)
   (turn:∀n s,I n s->wpAny (model prog w) A (pyNext it) (fun r s₁=>match r with
     | none=>R (.ok .next) s₁
     | some v=>wpAny (model prog w) A (letOwnedTupleGo target it v) (fun _ s₁'=>wpAny (model prog w) A (assign target env v) (fun _ s₂ =>
         wpAny (model prog w) A (forIn ifs true fun c r=>if r=true then do let ok <-isTrue c env (eval c env);pure (ForInStep.yield ok) else pure (ForInStep.yield r)) (fun ok s₃ =>
           if ok=true then wpAny (model prog w) A (eval elt env) (fun x s₄ =>
             wpAny (model prog w) A (call (.builtin "list.append") [acc,x]) (fun _ s₅=>∃m,m<n/\I m s₅) (fun _ _=>False) s₄) (fun _ _=>False) s₃
           else ∃m,m<n/\I m s₃) (fun _ _=>False) s₂) (fun _ _=>False) s₁') (fun _ _=>False) s₁) (fun _ _=>False) s)
   (n:Nat) (h:I n s):codeAny (model prog w) A (.compLoop (.ListComp elt [⟨target,iter,ifs,0⟩] scope pos) 0 it acc env) R s:=by
 refine codeAny_loop rfl I (fun n s hI=>?_) n h
 show wpAny _ A ((compTurn (.ListComp elt [⟨target,iter,ifs,0⟩] scope pos) 0 it acc env).onRaise (fun x=>do noteFrame x env;theTreesLotGoes x)) _ _ s
 refine wpAny_noted (wpAny_noRaise ?_)
 rw [compTurn_list]
 refine wpAny_bind (wpAny_standAt (wpAny_bind (wpAny_mono (turn n s hI) (fun r s₁ h₁=>?_) fun _ _ h'=>h')))
 cases r with
 | none=>exact wpAny_pure h₁
 | some v =>
   refine wpAny_bind (wpAny_mono h₁ (fun _ s₁' h₁'=>?_) fun _ _ h'=>h')
   refine wpAny_bind (wpAny_mono h₁' (fun _ s₂ h₂=>wpAny_bind (wpAny_mono h₂ (fun ok s₃ h₃=>?_) fun _ _ h'=>h')) fun _ _ h'=>h')
   cases ok with
   | false=>exact wpAny_pure ⟨rfl,h₃⟩
   | true =>
     exact wpAny_bind (wpAny_bind (wpAny_mono h₃ (fun x s₄ h₄=>wpAny_bind (wpAny_mono h₄ (fun _ s₅ h₅=>wpAny_pure (wpAny_pure ⟨rfl,h₅⟩)) fun _ _ h'=>h')) fun _ _ h'=>h'))
end
def blk (X:Cx) (N:List Str) (scope:Scope) (cl:List (Str×Addr)) (C:Addr) (s:Shared) (H:Hp) (fp:List Addr):Cx :=
 { X with N:=N,s₀:=s,H₀:=H,env:=compEnvC scope cl C X.env,outer:=X.stack,ex:=fp,fn:=fun _=>false,pn:=[],xe:=fun _ _=>False }
def PTs (X:Cx) (ifs:List Expr) (t:TT):Prop :=
 ∀(pins:List (Addr×Obj)) (s:Shared) (σ:St) (H:Hp) (Q:Bool->Hp->Prop),Inv X pins σ H s->t σ H Q ->
   wpAny (model X.prog X.w) X.A (forIn ifs true fun c r=>if r=true then do let ok <-isTrue c X.env (eval c X.env);pure (ForInStep.yield ok) else pure (ForInStep.yield r)) (TP X pins σ Q) X.xe s
def qtF:TT:=fun _ H Q=>Q true H
theorem qb0 {X:Cx}:PTs X [] qtF:=fun _ _ _ H _ I h=>wpAny_tests_nil ⟨H,I,h⟩
theorem qiV {X:Cx} {c:Expr} {t:TT} (h:PT X c t):PTs X [c] t:=fun pins s σ H Q I hw=>wpAny_tests_one (h pins s σ H Q I hw)
def qbE (nt:Nat) (caps:List Nat) (σ:St):St:=List.replicate nt none++caps.map fun j=>(σ[j]?).join
def qiv (nt:Nat) (g:TG):Prop:=∀(v:V) (cs:St) (H:Hp) (Q:St->Hp->Prop),g v (List.replicate nt none++cs) H Q ->
 g v (List.replicate nt none++cs) H fun σ' H'=>(∀(j:Nat) (u:V),(List.replicate nt none++cs)[j]?=some (some u)->σ'[j]?=some (some u))/\Q σ' H'
theorem qbH:qiv 1 (qey 0):=by
 intro v cs H Q h
 refine ⟨fun j u e=>?_,h⟩
 cases j with
 | zero=>simp at e
 | succ j=>simpa using e
def qfO (nt:Nat) (caps:List Nat) (wi:TI) (g:TG) (tt:TT) (te:TE):TE:=fun σ H Q=>wi σ H fun J H1 =>
 ∃W:Nat->Nat->List V->Hp->Prop,(∃m,W 0 m [] H1)/\∀i m ys H2,W i m ys H2 ->
   (J.stop i H2/\ys.length<=sizeLine/\∀p,H2 p=none->Q (.ref p) (upd H2 p (.lst ys))) \/
   (J.go i H2/\ys.length<sizeLine/\∀x H3,J.yld i H2 x H3->g x (qbE nt caps σ) H3 fun σ4 H4=>tt σ4 H4 fun b H5 =>
     if b=true then te σ4 H5 fun y H6=>∃m',m'<m/\W (i+1) m' (ys++[y]) H6 else ∃m',m'<m/\W (i+1) m' ys H5)
structure qf3 (X:Cx) (N:List Str) (nt:Nat) (caps:List Nat) (scope:Scope):Prop where
 cell:∀y∈scope.names,y.2 ≠ .cell
 kind:scope.kind = .function
 names:∀x∈scope.names,x.2 = .local->scope.names.lookup x.1=some .local
 free:∀n,(n,NameKind.free)∈scope.names->X.env.kindOf n=some .cell\/X.env.kindOf n=some .free
 cap:∀(j i:Nat),caps[j]?=some i->∃x,X.N[i]?=some x/\N[nt+j]?=some x/\(x,NameKind.free)∈scope.names/\scope.names.lookup x=some .free
 len:N.length=nt+caps.length
theorem qc1 {α:Type} (f:Str×α->Str×α) (hf:∀p,(f p).1=p.1):∀(l:List (Str×α)) (x:Str),(l.map f).lookup x=(l.lookup x).map fun k=>(f (x,k)).2
 | [],_=>rfl
 | (n,k)::r,x=>by
   have ih:=qc1 f hf r x
   have e:f (n,k)=(n,(f (n,k)).2):=Prod.ext (hf (n,k)) rfl
   rw [ych,e,yew,yew]
   split
   . rename_i h
     have:x=n:=by simpa using h
     subst this
     rfl
   . exact ih
theorem qgc {α:Type}:∀{l:List (Str×α)} {x:Str} {k:α},l.lookup x=some k->(x,k)∈l
 | [],_,_,h=>by cases h
 | (n,q)::r,x,k,h=>by
   rw [yew] at h
   split at h
   . rename_i e
     have:x=n:=by simpa using e
     subst this
     cases h
     exact ybb
   . exact ybe _ (qgc h)
theorem qcq {scope:Scope} {env:Env} {x:Str} (hc:∀y∈scope.names,y.2 ≠ .cell) {k:NameKind} (h:(relabel scope env).names.lookup x=some k) (hk:k = .cell\/k = .free):(x,NameKind.free)∈scope.names:=by
 unfold relabel at h
 dsimp only at h
 rw [qc1 _ (fun p=>by obtain ⟨n,k⟩:=p;dsimp only;split<;>rfl)] at h
 cases hl:scope.names.lookup x with
 | none=>rw [hl] at h;cases h
 | some q =>
   rw [hl] at h
   have m:=qgc hl
   by_cases hq:q = .free
   . rw [<-hq];exact m
   . exfalso
     have hb:(q==NameKind.free)=false:=by simpa using hq
     simp only [yet,hb,ydv,ydm,if_false,Option.some.injEq] at h
     rcases hk with z | z
     . exact hc _ m (h.trans z)
     . exact hq (h.trans z)
theorem qei {scope:Scope} {env:Env} {x:Str} (h:scope.names.lookup x=some .free):(relabel scope env).names.lookup x≠some .local:=by
 intro q
 unfold relabel at q
 dsimp only at q
 rw [qc1 _ (fun p=>by obtain ⟨n,k⟩:=p;dsimp only;split<;>rfl),h] at q
 dsimp only [Option.map] at q
 split at q<;>cases q
def qkn (sc:Scope) (NX N:List Str) (nt:Nat) (caps:List Nat) (scope:Scope):Bool :=
 scope.names.all (fun y=>!(y.2 == .cell))&&scope.kind == .function&&scope.names.all (fun y=>!(y.2 == .local)||scope.names.lookup y.1==some .local)
 && scope.names.all (fun y=>!(y.2 == .free)||sc.names.lookup y.1==some .cell||sc.names.lookup y.1==some .free)
 && (List.range caps.length).all (fun j=>match NX[caps.getD j 0]? with
   | some x=>N[nt+j]?==some x&&scope.names.any (fun y=>y.1==x&&y.2 == .free)&&scope.names.lookup x==some .free
   | none=>false)
 && N.length==nt+caps.length
theorem qbt {X:Cx} {N:List Str} {nt:Nat} {caps:List Nat} {scope:Scope} (h:qkn X.env.scope X.N N nt caps scope=true:=by rfl):qf3 X N nt caps scope:=by
 unfold qkn at h
 simp only [yab,ybf,yex,yaw,beq_iff_eq,beq_eq_false_iff_ne,ne_eq] at h
 obtain ⟨⟨⟨⟨⟨h1,h2⟩,h3⟩,h4⟩,h5⟩,h6⟩:=h
 refine ⟨fun y hy=>h1 y hy,h2,fun y hy e=>(h3 y hy).resolve_left fun z=>z e,fun n hn=>?_,fun j i e=>?_,h6⟩
 . rcases h4 (n,.free) hn with (z | z) | z
   . exact absurd rfl z
   . exact .inl z
   . exact .inr z
 . obtain ⟨hj,e'⟩:=ybr.mp e
   have q:=h5 j (ybh.mpr hj)
   have eg:caps.getD j 0=i:=by rw [yey,e];rfl
   rw [eg] at q
   cases hx:X.N[i]? with
   | none=>rw [hx] at q;cases q
   | some x =>
     rw [hx] at q
     simp only [yab,beq_iff_eq,ybj] at q
     obtain ⟨⟨q1,y,hy,e1,e2⟩,q3⟩:=q
     refine ⟨x,rfl,q1,?_,q3⟩
     obtain ⟨n,k⟩:=y
     cases e1;cases e2
     exact hy
section
variable {X:Cx} {tg iter elt:Expr} {ifs:List Expr} {scope:Scope} {pos:Pos} {N:List Str} {nt:Nat} {caps:List Nat} {wi:TI} {g:TG} {tt:TT} {te:TE} {cl:List (Str×Addr)}
theorem qi7 {pins:List (Addr×Obj)} {σ:St} {H:Hp} {s:Shared} {it:Addr} {fp:List Addr} {tn:Nat->Heap->Prop} {J:It} {RR:Value->Addr->Result->Shared->Prop} {E:Value->Shared->Prop}
   (ok:qf3 X N nt caps scope) (hc:X.calm=true) (h1:∀n c,cl.lookup n=some c->X.env.cells.lookup n=some c) (h2:∀n,(n,NameKind.free)∈scope.names->∃c,cl.lookup n=some c)
   (hg:∀cl C s H fp,PG (blk X N scope cl C s H fp) tg g) (hgk:qiv nt g) (ht:∀cl C s H fp,PTs (blk X N scope cl C s H fp) ifs tt) (he:∀cl C s H fp,PE (blk X N scope cl C s H fp) elt te)
   (I:Inv X pins σ H s) (T:qqx X.prog X.w X.K tg J fp it tn) (st:tn 0 s.heap) (hf:∀b∈fp,qh3 X pins H b)
   (W:Nat->Nat->List V->Hp->Prop) (Z:List V->Hp->Prop) (m0:Nat) (w0:W 0 m0 [] H)
   (turn:∀i m ys H2,W i m ys H2->(J.stop i H2/\Z ys H2) \/
     (J.go i H2/\ys.length<sizeLine/\∀x H3,J.yld i H2 x H3->g x (qbE nt caps σ) H3 fun σ4 H4=>tt σ4 H4 fun b H5 =>
       if b=true then te σ4 H5 fun y H6=>∃m',m'<m/\W (i+1) m' (ys++[y]) H6 else ∃m',m'<m/\W (i+1) m' ys H5))
   (hRR:∀(C:Addr) (s':Shared) (ys:List V) (its:List Value) (n:Nat) (H':Hp),s.heap.objs.size<C->qa6 ys its->Inv (blk X N scope cl C s H fp) [] (qbE nt caps σ) H' s' ->
     s'.heap.get? s.heap.objs.size=some { cls := .type "list",data := .seq its.toArray n }->H' s.heap.objs.size=none->Z ys H'->RR (.ref s.heap.objs.size) C (.ok .next) s') :
   wpAny (model X.prog X.w) X.A (newList []) (fun acc s₃=>wpAny (model X.prog X.w) X.A (newFunctionEnv scope X.env.globals cl [] X.env.qual none .none (some X.env)) (fun cenv s₄ =>
     codeAny (model X.prog X.w) X.A (.compStart (.ListComp elt [⟨tg,iter,ifs,0⟩] scope pos) 0 (.ref it) acc { cenv with scope:=relabel scope X.env }) (RR acc cenv.locals) s₄) E s₃) E s:=by
 refine wpAny_newObj_type (wpAny_newFunctionEnv ok.cell (by intro y hy;simp at hy) (fun h₁ hns₁ hsb₁=>?_) ok.kind)
 dsimp only at hns₁ hsb₁ ⊢
 generalize hG:s.heap.push { cls := .type "list",dict:=none,data := .seq ([]:List Value).toArray }=G at hns₁ hsb₁ ⊢
 have hC:G.objs.size=s.heap.objs.size+1:=by rw [<-hG,yct]
 have hDC:s.heap.objs.size≠G.objs.size:=by rw [hC];exact ycu (ybx _)
 have hlt:s.heap.objs.size<G.objs.size:=by rw [hC];exact ybx _
 have old:∀b o,s.heap.get? b=some o->h₁.get? b=some o:=fun b o e =>
   hsb₁.extBut b o (ycu (ybl (ycs e) hlt)) (ycr _ (hG▸ycr _ e))
 have hacc:h₁.get? s.heap.objs.size=some { cls := .type "list",data := .seq ([]:List Value).toArray 0 }:=hsb₁.extBut _ _ hDC (ycr _ (hG▸ycq _ rfl))
 have fpD:∀b∈fp,b<s.heap.objs.size:=fun b hb=>by
   obtain ⟨o,e,_⟩:=T.obj _ _ st b hb
   exact ycs e
 have celt:∀n c,cl.lookup n=some c->c<s.heap.objs.size:=fun n c e=>by
   obtain ⟨v,q⟩:=I.cell n c (h1 n c e)
   exact q.lt
 have YOk:(blk X N scope cl G.objs.size s H fp).Ok:=by
   refine ⟨I.ok.mod,ok.kind,I.ok.glob,I.ok.blt,ybs hlt,fun x y c e e'=>I.ok.inj x y c (h1 x c e) (h1 y c e'),fun x hx=>?_,fun x c hx _=>(nomatch hx),I.ok.hd,I.ok.frames,.inl rfl,
     fun b hb=>⟨ycu (ybl (fpD b hb) hlt),fun x c e z=>?_⟩,fun b o e=>I.bs b o e,ybt I.ok.bsz I.sz,fun b o e hb=>?_,fun b hb hz=>?_,I.stack,I.stkFree⟩
   . rcases hx with hx | hx
     . exact h2 x (qcq ok.cell hx (.inl rfl))
     . exact h2 x (qcq ok.cell hx (.inr rfl))
   . exact (hf b hb).2.2.2.2.1 x c (h1 x c e) z
   . rcases (hf b hb).2.2.2.1 with z | z
     . exact I.ok.noex b o e z
     . exact absurd (yae (ycs e) (ybt I.ok.bsz z)) (ydn _)
   . rcases ybd.mp (I.stkSub b hz) with z | z
     . exact (hf b hb).2.1 z
     . exact (hf b hb).2.2.1 z
 have lenb:(qbE nt caps σ).length=N.length:=by rw [ok.len];simp [qbE]
 have IY:Inv (blk X N scope cl G.objs.size s H fp) [] (qbE nt caps σ) H { s with heap:=h₁,toks:=s.toks+([]:List (Str×Value)).length }:=by
   refine ⟨YOk,rfl,I.bare,Un.kept old,⟨_,hns₁,fun i x v e1 e2 e3=>?_⟩,fun x c e=>?_,I.hok.fresh (ybs hlt),fun x c e=>I.freeC x c (h1 x c e),fun p hp=>(nomatch hp),I.hok.kept old,lenb,I.tk⟩
   . have hi:nt<=i:=by
       rcases yag i nt with z | z
       . exfalso
         unfold qbE at e2
         rw [yeh (by simpa using z),yeg] at e2
         split at e2<;>cases e2
       . exact z
     unfold qbE at e2
     rw [yef (by simpa using hi),yei,ydf] at e2
     cases ej:caps[i-nt]? with
     | none=>rw [ej] at e2;cases e2
     | some j =>
       rw [ej] at e2
       have e2':(σ[j]?).join=some v:=by simpa using e2
       have e2'':σ[j]?=some (some v):=by
         cases q:σ[j]? with
         | none=>rw [q] at e2';cases e2'
         | some z=>rw [q] at e2';simp at e2';rw [e2']
       obtain ⟨y,y1,y2,y3,y4⟩:=ok.cap _ _ ej
       have:nt+(i-nt)=i:=by omega
       rw [this] at y2
       have e1':N[i]?=some x:=e1
       rw [e1'] at y2
       cases y2
       obtain ⟨m,hn,hl⟩:=I.loc
       have kx:=ok.free x y3
       have vx:Vis X.env.scope x:=by
         rcases kx with z | z
         . exact .inr (.inl z)
         . exact .inr (.inr z)
       obtain ⟨u,r,l⟩:=hl j x v y1 e2'' vx
       refine ⟨u,r,.inr ⟨?_,?_⟩⟩
       . rcases e3 with z | z | z
         . exact absurd z (qei y4)
         . exact .inl z
         . exact .inr z
       . obtain ⟨c,hcl⟩:=h2 x y3
         refine ⟨c,hcl,?_⟩
         rcases l with ⟨k,_⟩ | ⟨_,c',hc',o,ho,hd⟩
         . rcases kx with z | z<;>(rw [z] at k;cases k)
         . have:c=c':=Option.some.inj ((h1 x c hcl).symm.trans hc')
           subst this
           exact ⟨o,old c o ho,hd⟩
   . obtain ⟨v,o,ho,hd⟩:=I.cell x c (h1 x c e)
     exact ⟨v,o,old c o ho,hd⟩
 -- the loop
 have stat:∀{pn:List (Addr×Obj)} {H':Hp},(∀b∈fp,H' b=none)->(∀p∈pn,s.heap.objs.size<=p.1)->∀b∈fp,qh3 (blk X N scope cl G.objs.size s H fp) pn H' b:=fun {pn H'} hn hpn b hb =>
   ⟨hn b hb,ycu (ybl (fpD b hb) hlt),fun hz=>(YOk.exfs b hb hz).elim,.inl hb,fun x c e z=>(hf b hb).2.2.2.2.1 x c (h1 x c e) z,fun p hp z=>by
     have hp':p∈pn:=by simpa [blk] using hp
     have:=hpn p hp'
     rw [z] at this
     exact absurd (yae (fpD b hb) this) (ydn _)⟩
 have hDf:s.heap.objs.size∉fp:=fun hm=>ydn _ (fpD _ hm)
 have hDs:s.heap.objs.size∉frs X.stack:=fun hm=>by
   rcases ybd.mp (I.stkSub _ hm) with z | z
   . exact absurd I.lt (by rw [<-z];exact ydn _)
   . exact I.nofs (yax _) z
 have loop:∀s₃:Shared,s₃={ s with heap:=h₁,toks:=s.toks+([]:List (Str×Value)).length } ->
     codeAny (model X.prog X.w) X.A (.compLoop (.ListComp elt [⟨tg,iter,ifs,0⟩] scope pos) 0 (.ref it) (.ref s.heap.objs.size) (compEnvC scope cl G.objs.size X.env)) (RR (.ref s.heap.objs.size) G.objs.size) s₃:=by
   rintro s₃ rfl
   refine qhO (fun n s'=>∃i ys its k H',Inv (blk X N scope cl G.objs.size s H fp) [] (qbE nt caps σ) H' s'/\tn i s'.heap/\(∀b∈fp,H' b=none)/\qa6 ys its /\
     s'.heap.get? s.heap.objs.size=some { cls := .type "list",data := .seq its.toArray k }/\H' s.heap.objs.size=none/\ys.length<=sizeLine/\W i n ys H') ?_ m0
     ⟨0,[],[],0,H,IY,T.keep _ _ _ st fun b hb o e=>old b o e,fun b hb=>(hf b hb).1,.nil,hacc,I.hok.fresh (yax _),ybv _,w0⟩
   rintro n s3 ⟨i,ys,its,k,H3,I3,st3,fr3,v3,a3,n3,z3,w3⟩
   have I3p:Inv (blk X N scope cl G.objs.size s H fp) [(s.heap.objs.size,{ cls := .type "list",data := .seq its.toArray k })] (qbE nt caps σ) H3 s3:=I3.pins_of fun p hp=>by
     have e:p=(s.heap.objs.size,{ cls := .type "list",data := .seq its.toArray k }):=by simpa using hp
     subst e
     exact ⟨a3,n3,hDC,hDs,fun v z=>by cases z⟩
   have pn3:∀p∈[(s.heap.objs.size,({ cls := .type "list",data := .seq its.toArray k }:Obj))],s.heap.objs.size<=p.1:=fun p hp=>by
     have e:p=(s.heap.objs.size,{ cls := .type "list",data := .seq its.toArray k }):=by simpa using hp
     subst e
     exact yax _
   rcases turn i n ys H3 w3 with ⟨stop,zz⟩ | ⟨go,hlen,step⟩
   . refine thn (T.done (blk X N scope cl G.objs.size s H fp) rfl rfl rfl hc i _ s3 _ H3 _ I3p (stat fr3 pn3) st3 stop) fun r s4 ⟨hr,I4⟩=>?_
     subst hr
     have a4:=I4.pin (s.heap.objs.size,{ cls := .type "list",data := .seq its.toArray k }) (ydw _ (by simp))
     exact hRR _ s4 ys its k H3 hlt v3 (I4.pins_of fun _ hp=>nomatch hp) a4.1 n3 zz
   . refine thn (T.item (blk X N scope cl G.objs.size s H fp) rfl rfl rfl hc i _ s3 _ H3 _ I3p (stat fr3 pn3) st3 go) fun r s4 ⟨u,hr,h4⟩=>?_
     subst hr
     refine thn h4 fun _ s5 ⟨x,H5,I5,r5,y5,st5,fr5⟩=>?_
     have I5':=I5.pinned (stat fr5 pn3) (T.obj _ _ st5)
     refine thn (hg _ _ _ _ _ _ s5 _ H5 x u _ I5' r5 (hgk _ _ _ _ (step x H5 y5))) fun _ s6 ⟨σ6,H6,I6,kp6,q6⟩=>?_
     refine thn (ht _ _ _ _ _ _ s6 σ6 H6 _ I6 q6) fun b s7 ⟨H7,I7,q7⟩=>?_
     have qqF:∀{H8:Hp} {s8:Shared},Inv (blk X N scope cl G.objs.size s H fp) ([(s.heap.objs.size,({ cls := .type "list",data := .seq its.toArray k }:Obj))]++qdx fp s5.heap) σ6 H8 s8 ->
         Inv (blk X N scope cl G.objs.size s H fp) [] (qbE nt caps σ) H8 s8/\tn (i+1) s8.heap/\(∀b∈fp,H8 b=none)/\s8.heap.get? s.heap.objs.size=some { cls := .type "list",data := .seq its.toArray k }/\H8 s.heap.objs.size=none:=fun {H8 s8} I8=>by
       have a8:=I8.pin (s.heap.objs.size,{ cls := .type "list",data := .seq its.toArray k }) (ydw _ (yas _ (by simp)))
       refine ⟨(I8.pins_of (pins':=[]) fun _ hp=>absurd hp (by simp)).weak (by rw [lenb,I8.len];rfl) kp6,T.keep _ _ _ st5 fun b hb o e=>(I8.pin (b,o) (ydw _ (ydw _ (qbK hb e)))).1,fun b hb=>?_,a8.1,a8.2.1⟩
       obtain ⟨o,e,d⟩:=T.obj _ _ st5 b hb
       exact (I8.pin (b,o) (ydw _ (ydw _ (qbK hb e)))).2.1
     cases b with
     | false =>
       rw [if_neg (by intro z;cases z)] at q7 ⊢
       obtain ⟨m',hm,w7⟩:=q7
       obtain ⟨b1,b2,b3,b4,b5⟩:=qqF I7
       exact ⟨m',hm,i+1,ys,its,k,H7,b1,b2,b3,v3,b4,b5,z3,w7⟩
     | true =>
       rw [if_pos rfl] at q7 ⊢
       refine thn (he _ _ _ _ _ _ s7 σ6 H7 _ I7 q7) fun u8 s8 ⟨y,H8,I8,r8,m',hm,w8⟩=>?_
       obtain ⟨b1,b2,b3,b4,b5⟩:=qqF I8
       have hl:=v3.length
       refine call_meets F.slot_list_append ⟨_,b4,rfl⟩ F.entry_list_append (F.args_list_append_2 _ _) (PySem.list_append s.heap.objs.size its.toArray k u8 (by rw [yen];omega)) ⟨b4,?_⟩
       have q:=PySem.IsL.update (show PySem.IsL s8.heap s.heap.objs.size its.toArray k from b4) (fun x=>x.push u8)
       have eq:its.toArray.push u8=(its++[u8]).toArray:=by simp
       rw [eq] at q
       have keep:∀b' o,b'≠s.heap.objs.size->s8.heap.get? b'=some o->(s8.heap.update s.heap.objs.size (Obj.mapSeq fun x=>x.push u8)).get? b'=some o:=fun b' o hb hu =>
         (yde s8.heap (Obj.mapSeq fun x=>x.push u8) (Ne.symm hb)).trans hu
       refine ⟨m',hm,i+1,ys++[y],its++[u8],_,H8,b1.turned (t':=s8.toks) keep b5 hDC (.inr (yax _)) (fun x c e z=>?_) (fun p hp=>by simp [blk] at hp),T.keep _ _ _ b2 fun b hb o e=>keep b o (fun z=>hDf (z▸hb)) e,b3,
         v3.append (.cons r8 .nil),q,b5,?_,w8⟩
       . exact absurd (celt x c e) (by rw [z];exact ydn _)
       . rw [ycm,yeq];omega
 exact codeAny_compStart_list (loop _ rfl) (T.self _ 0 _ _ _ (T.keep _ _ _ st fun b hb o e=>old b o e) (loop _ rfl))
theorem qe9 {pins:List (Addr×Obj)} {σ:St} {H H':Hp} {s s':Shared} {fp:List Addr} {C:Addr} {ys:List V} {its:List Value} {n:Nat} {σb:St} {h':Heap}
   (I:Inv X pins σ H s) (hf:∀b∈fp,qh3 X pins H b) (hC:s.heap.objs.size<C) (v:qa6 ys its) (hz:ys.length<=sizeLine) (IY:Inv (blk X N scope cl C s H fp) [] σb H' s')
   (e:s'.heap.get? s.heap.objs.size=some { cls := .type "list",data := .seq its.toArray n }) (en:H' s.heap.objs.size=none) (hs:∀b o,b≠C->s'.heap.get? b=some o->h'.get? b=some o) :
   Inv X pins σ (upd H' s.heap.objs.size (.lst ys)) { s' with heap:=h' }:=by
 have hCn:H' C=none:=IY.free
 have hok:HOk X.prog X.w H' h':=fun b u q=>by
   have nC:∀c u',H' c=some u'->c≠C:=fun c u' q' z=>by rw [z,hCn] at q';cases q'
   refine (IY.hok b u q).stay (fun c w' hc q'=>hs c w' ?_ q') (fun _ q'=>q') fun _ _ q'=>q'
   rcases hc with z | z
   . rw [z];exact nC b u q
   . exact nC c _ z
 have lt:∀b o,s.heap.get? b=some o->b≠C:=fun b o q=>ycu (ybl (ycs q) hC)
 have u:Un (frs X.stack) fp H H' s.heap h':=⟨fun b o q nn hb hx=>hs b o (lt b o q) (IY.base.keep b o q nn hb hx),fun b o q nn hb hx=>by
     obtain ⟨sl,q'⟩:=IY.base.slot b o q nn hb hx
     exact ⟨sl,hs b _ (lt b o q) q'⟩,IY.base.free,fun b o q hx=>by
     obtain ⟨o',q'⟩:=IY.base.there b o q hx
     exact ⟨o',hs b o' (lt b o q) q'⟩,IY.base.tups,IY.base.frzs,IY.base.tbls⟩
 have I1:Inv X pins σ H' { s' with heap:=h' }:=I.call' (ht:=IY.tk) (s':={ s' with heap:=h' }) (ch:=fp) IY.os u hok IY.bare fun b hb=>⟨(hf b hb).2.2.2.1,(hf b hb).2.1,(hf b hb).2.2.2.2.1,(hf b hb).2.2.2.2.2⟩
 have hD:h'.get? s.heap.objs.size=some { cls := .type "list",data := .seq its.toArray n }:=hs _ _ (ycu hC) e
 exact I1.track (by
   have f:=I.fpOk (H':=H') (b:=s.heap.objs.size) (yax _) en
   exact f) ⟨hz,its,n,v,hD⟩
theorem qcr (ok:qf3 X N nt caps scope) (hc:X.calm=true) (hi:PI X tg iter wi)
   (hg:∀cl C s H fp,PG (blk X N scope cl C s H fp) tg g) (hgk:qiv nt g) (ht:∀cl C s H fp,PTs (blk X N scope cl C s H fp) ifs tt) (he:∀cl C s H fp,PE (blk X N scope cl C s H fp) elt te)
   (hs:∀x,foldedSetIterable iter X.env x=pure x:=by intro _;rfl):PE X (.ListComp elt [⟨tg,iter,ifs,0⟩] scope pos) (qfO nt caps wi g tt te):=by
 intro pins s σ H Q I h
 obtain ⟨cl,hcl,h1,h2⟩:=qcY (scope:=scope) (env:=X.env) fun n hn=>I.ok.has n (ok.free n hn)
 rw [eval_ListComp]
 refine wpAny_comprehension_free (use:=none) rfl hs hcl ok.kind ok.names (thn (hi pins s σ H _ I h) fun xv s1 h1'=>thn h1' fun itv s2 h2'=>?_)
 obtain ⟨it,fp,tn,J,H2,e,I2,T,st2,f2,W,⟨m0,w0⟩,turn⟩:=h2'
 subst e
 refine qi7 (RR:=fun acc C=>compPost (model X.prog X.w) X.A X.xe none (EP X pins σ Q) acc C) ok hc h1 h2 hg hgk ht he I2 T st2 f2 W (fun ys H'=>ys.length<=sizeLine/\∀p,H' p=none->Q (.ref p) (upd H' p (.lst ys))) m0 w0 turn ?_
 intro C s' ys its n H' hC v IY e en zz
 obtain ⟨m,hn,_⟩:=IY.loc
 exact ⟨m,hn,fun h' hs'=>⟨.ref s2.heap.objs.size,_,qe9 I2 f2 hC v zz.1 IY e en (fun b o hb q=>hs'.extBut b o hb q),rfl,zz.2 _ en⟩⟩
theorem qlx {i:Nat} {y:Str} {py spos:Pos} (hN:X.N.Nodup) (hyi:X.N[i]?=some y) (hy:X.env.scope.names.lookup y=some .local) (hsw:swapsWith (.ListComp elt [⟨tg,iter,ifs,0⟩] scope pos) (some (.Name y py)) spos.line X.env=pure true)
   (ok:qf3 X N nt caps scope) (hc:X.calm=true) (hi:PI X tg iter wi)
   (hg:∀cl C s H fp,PG (blk X N scope cl C s H fp) tg g) (hgk:qiv nt g) (ht:∀cl C s H fp,PTs (blk X N scope cl C s H fp) ifs tt) (he:∀cl C s H fp,PE (blk X N scope cl C s H fp) elt te)
   (hs:∀x,foldedSetIterable iter X.env x=pure x:=by intro _;rfl):PS X (.Assign [.Name y py] (.ListComp elt [⟨tg,iter,ifs,0⟩] scope pos) spos) (qoh (qfO nt caps wi g tt te) (qey i)):=by
 intro pins s σ H D I h
 obtain ⟨cl,hcl,h1,h2⟩:=qcY (scope:=scope) (env:=X.env) fun n hn=>I.ok.has n (ok.free n hn)
 rw [exec_Assign_Name_used _ _ _ _ hsw]
 refine wpAny_bind (wpAny_standAt (wpAny_bind ?_))
 show wpAny _ X.A (do let _ <-comprehension (.ListComp elt [⟨tg,iter,ifs,0⟩] scope pos) scope X.env _ (newList []) false (eval iter X.env) (some (assign (.Name y py) X.env))) _ _ s
 refine wpAny_bind (wpAny_mono (wpAny_comprehension_free (use:=some (assign (.Name y py) X.env)) (Q:=fun _ s'=>SP X pins D .next s') rfl hs hcl ok.kind ok.names
   (thn (hi pins s σ H _ I h) fun xv s1 h1'=>thn h1' fun itv s2 h2'=>?_)) (fun _ s' hq=>wpAny_pure (wpAny_pure hq)) fun _ _ e=>e)
 obtain ⟨it,fp,tn,J,H2,e,I2,T,st2,f2,W,⟨m0,w0⟩,turn⟩:=h2'
 subst e
 refine qi7 (RR:=fun acc C=>compPost (model X.prog X.w) X.A X.xe (some (assign (.Name y py) X.env)) (fun _ s'=>SP X pins D .next s') acc C) ok hc h1 h2 hg hgk ht he I2 T st2 f2 W
   (fun ys H'=>ys.length<=sizeLine/\∀p,H' p=none->qey i (.ref p) σ (upd H' p (.lst ys)) D.nx) m0 w0 turn ?_
 intro C s' ys its n H' hC v IY e en zz
 obtain ⟨m,hn,_⟩:=IY.loc
 have I3:Inv X pins σ (upd H' s2.heap.objs.size (.lst ys)) s':=qe9 (h':=s'.heap) I2 f2 hC v zz.1 IY e en fun b o hb q=>q
 obtain ⟨o,es,ep,ho,r⟩:=id hn
 have fC:qh3 X pins (upd H' s2.heap.objs.size (.lst ys)) C:=by
   have f:=I2.fpOk (H':=H') (b:=C) (ybs hC) IY.free
   refine ⟨by rw [qaq (Ne.symm (ycu hC))];exact IY.free,f.2⟩
 show wpAny (model X.prog X.w) X.A (assign (.Name y py) X.env (.ref s2.heap.objs.size)) (fun _ s''=>∃m,s''.heap.Ns C m/\∀h',Heap.SameBut C s''.heap h'->SP X pins D .next { s'' with heap:=h' }) X.xe s'
 have I3p:Inv X (pins++[(C,o)]) σ (upd H' s2.heap.objs.size (.lst ys)) s':=I3.pins_of fun p hp=>by
   rcases yat.mp hp with z | z
   . exact I3.pin p (ydw _ z)
   . have e:p=(C,o):=by simpa using z
     subst e
     exact ⟨ho,fC.1,fC.2.1,fC.2.2.1,fun v z=>by rw [r.1] at z;cases z⟩
 refine wpAny_assign_Name (qde I3p hN hyi (.inl hy) (v := .ref s2.heap.objs.size) rfl (fun s4 I4=>?_) (.inr hy))
 have a4:=I4.pin (C,o) (ydw _ (ydw _ (by simp)))
 refine ⟨m,⟨o,es,ep,a4.1,r⟩,fun h' hs'=>⟨_,_,?_,zz.2 _ en⟩⟩
 exact (I4.unpinned).turned (t':=s4.toks) (fun b o' hb q=>hs'.extBut b o' hb q) fC.1 fC.2.1 fC.2.2.2.1 fC.2.2.2.2.1 fC.2.2.2.2.2
end
end L2
namespace L2
open PySem PySem.Spec PyProof.Rows
structure Cal (P:Program) (w:World) (K:PySem.W.Frag) (mg:Str->Option Value) (base:Heap) (x:Str) (k:Nat) (ps:List Str) (sp:Sp) (f:Addr) (fd:FuncData):Prop where
 ok:qaM P w K mg base CX0 k f fd ps sp
 mg:mg x=some (.ref f)
 kp:PySem.W.keepIn K (.ref f)=true
 bd:qdr K fd ps []
section
variable {X:Cx} {x:Str} {p pos:Pos} {e:Expr} {es:List Expr} {t:TA} {k j:Nat} {ps:List Str} {sp:Sp} {f:Addr} {fd:FuncData}
theorem qsl (C:Cal X.prog X.w X.K X.mg X.base x k ps sp f fd) (hr:qc3 j X.A) (hj:k<=j) (hg:Gl X x) (ha:PA X (e::es) t) (hdb:(x==("__debug__" : Str))=false:=by decide)
 (he:starEach (e::es) X.env=(false,eval e X.env)::starEach es X.env:=by rfl) (hpl:(backTo pos (starEach es X.env)).any (·.1)=false:=by rfl) :
 PE X (.Call (.Name x p) (e::es) [] pos) (qiH sp [] E0 t):=qmB C.ok (hr.mono hj) hg C.mg C.kp C.bd .nil qra ha hdb he hpl
end
section
variable {X:Cx}
def qp3 (i j:Int):Prop:=0<j/\j<2^200
theorem qp3.log {i j:Int} (h:qp3 i j):j.natAbs.log2<9000:=by
 have h1:0<j:=h.1
 have h2:j<2^200:=h.2
 have h3:j.natAbs<2^200:=by omega
 have h4:j.natAbs≠0:=by omega
 have:=(Nat.log2_lt h4).mpr h3
 omega
theorem qnE:OpR X (binaryOp .FloorDiv) (rI qp3 fun i j => .int (i/j)):=opI fun i j _ _ _ _ _ hc q=>by
 have h1:(0:Int)<j:=hc.1
 exact floordiv_int (by omega) (by rw [ydx i (by omega)];exact q) (.inl (PyProof.noPylong_of_log2 hc.log))
def qdZ (H:Hp):V->Option String
 | .non=>some "NoneType"
 | .bl _=>some "bool"
 | .int _=>some "int"
 | .str _=>some "str"
 | .ref a=>match H a with
   | some (.lst _)=>some "list"
   | some (.frz _ (.lst _))=>some "list"
   | some (.tup _)=>some "tuple"
   | some (.dK _)=>some "dict"
   | _=>none
 | _=>none
def qkg (t c:String):Bool:=t==c||(t == "bool" && c == "int")
theorem qpA (K:PySem.W.Frag):∀t∈["NoneType", "bool", "int", "str", "list", "tuple", "dict"],∀c∈["int", "bool", "list", "tuple", "str"],PySem.W.kitOne K (.type t) (.type c)=some (qkg t c):=by
 intro t ht c hc
 simp only [ybd,ycw,or_false] at ht hc
 rcases ht with rfl | rfl | rfl | rfl | rfl | rfl | rfl<;>rcases hc with rfl | rfl | rfl | rfl | rfl<;>rfl
theorem qp5 {K:PySem.W.Frag} {H:Hp} {x:V} {t:String} (h:qdZ H x=some t):qjH K H x (.type t)/\t∈["NoneType", "bool", "int", "str", "list", "tuple", "dict"]:=by
 cases x with
 | non=>cases h;exact ⟨.non,by decide⟩
 | bl b=>cases h;exact ⟨.bl b,by decide⟩
 | int i=>cases h;exact ⟨.int i,by decide⟩
 | str z=>cases h;exact ⟨.str z,by decide⟩
 | ref a =>
   unfold qdZ at h
   dsimp only at h
   split at h
   . rename_i e;cases h;exact ⟨.lst e,by decide⟩
   . rename_i e;cases h;exact ⟨.frz e,by decide⟩
   . rename_i e;cases h;exact ⟨.tup e,by decide⟩
   . rename_i e;cases h;exact ⟨.dK e,by decide⟩
   . cases h
 | _=>cases h
def qkB:List V->Hp->VK->Prop:=fun xs H Q=>∃x c t,xs=[x,.ty c]/\qdZ H x=some t/\c∈["int", "bool", "list", "tuple", "str"]/\Q (.bl (qkg t c)) H
theorem qci:qcM X (.builtin "isinstance") qkB:=by
 intro pins s σ H xs us Q I r h
 obtain ⟨x,c,t,rfl,hk,hc,q⟩:=h
 obtain ⟨u,w',rfl,rx,ry⟩:=qj4 r
 cases (show w'=Value.type c from ry)
 obtain ⟨ty,ht⟩:=qp5 (K:=X.K) hk
 exact wpAny_with_toks I.tk (qkU I rx ty (qpA X.K t ht c hc) fun tk htk=>⟨.bl _,H,I.tok _ htk,rfl,q⟩)
def qgf (xs ys:List V):Bool:=xs.length==ys.length&&(List.range xs.length).all fun j=>eqV (xs.getD j .non) (ys.getD j .non)
theorem qlN (ns ms:List Int):qgf (ns.map V.int) (ms.map V.int)=decide (ns=ms):=by
 unfold qgf
 rw [ycj,ycj]
 by_cases hl:ns.length=ms.length
 . rw [show (ns.length==ms.length)=true by simpa using hl,yez]
   rw [yav,ybf,decide_eq_true_eq]
   constructor
   . intro h
     refine ydj hl fun i h1 h2=>?_
     have q:=h i (ybh.mpr h1)
     simpa [List.getD,h1,h2,eqV] using q
   . rintro rfl j hj
     have hj':=ybh.mp hj
     simp [List.getD,hj',eqV]
 . rw [show (ns.length==ms.length)=false by simpa using hl,ydv]
   exact (decide_eq_false fun e=>hl (by rw [e])).symm
def qqL (K:PySem.W.Frag):R2:=fun x y H Q=>∃a b xs ys,x = .ref a/\y = .ref b/\SqL K H a xs/\SqL K H b ys/\xs.all qb2=true/\ys.all qb2=true/\Q (.bl (qgf xs ys)) H
def qsg (K:PySem.W.Frag):R2:=fun x y H Q=>∃a b xs ys,x = .ref a/\y = .ref b/\SqL K H a xs/\SqL K H b ys/\xs.all qb2=true/\ys.all qb2=true/\Q (.bl (!qgf xs ys)) H
theorem qhs {A:Around} {s:Shared} {xs ys:List V} {us ws:List Value} (rx:qa6 xs us) (ry:qa6 ys ws) (fx:xs.all qb2=true) (fy:ys.all qb2=true) (j:Nat) (h1:j<us.toArray.size) (h2:j<ws.toArray.size) :
   SeqAt.EqAt A s us.toArray[j] ws.toArray[j] (eqV (xs.getD j .non) (ys.getD j .non)):=by
 have l1:=rx.length
 have l2:=ry.length
 rw [yen] at h1 h2
 have e1:xs[j]?=some (xs.getD j .non):=by rw [yey,ydc (by omega)];rfl
 have e2:ys[j]?=some (ys.getD j .non):=by rw [yey,ydc (by omega)];rfl
 obtain ⟨u,hu,ru⟩:=rx.get e1
 obtain ⟨v,hv,rv⟩:=ry.get e2
 have g1:us.toArray[j]=u:=by
   rw [yfa]
   exact Option.some.inj ((ydc h1).symm.trans hu)
 have g2:ws.toArray[j]=v:=by
   rw [yfa]
   exact Option.some.inj ((ydc h2).symm.trans hv)
 rw [g1,g2]
 exact qoL ru rv (ybf.mp fx _ (ydk e1)) (ybf.mp fy _ (ydk e2))
theorem qqO (hu:X.A.units<cLine):OpR X (compareOp .Eq) (qqL X.K):=by
 intro pins s σ H x y v u Q I rx ry h
 obtain ⟨a,b,xs,ys,rfl,rfl,ha,hb,fx,fy,q⟩:=h
 cases rx
 cases ry
 obtain ⟨us,r1,p1,z1⟩:=I.list ha
 obtain ⟨ws,r2,p2,z2⟩:=I.list hb
 have l1:=r1.length
 have l2:=r2.length
 by_cases hl:xs.length=ys.length
 . refine SeqAt.eq_listAt p1.isList p2.isList (by simp only [yen];omega) hu (fun j h1 h2=>qhs r1 r2 fx fy j h1 h2) ⟨.bl _,H,I,rfl,?_⟩
   have e:qgf xs ys=(List.range us.toArray.size).all fun j=>eqV (xs.getD j .non) (ys.getD j .non):=by
     unfold qgf
     rw [show (xs.length==ys.length)=true by simpa using hl,yez,yen,l1]
   rw [<-e]
   exact q
 . refine SeqAt.eq_list_lengthsAt p1.isList p2.isList (by simp only [yen,bne_iff_ne];omega) hu ⟨.bl _,H,I,rfl,?_⟩
   have e:qgf xs ys=false:=by
     unfold qgf
     rw [show (xs.length==ys.length)=false by simpa using hl,ydv]
   rw [<-e]
   exact q
theorem qru (hu:X.A.units<cLine):OpR X (compareOp .NotEq) (qsg X.K):=by
 intro pins s σ H x y v u Q I rx ry h
 obtain ⟨a,b,xs,ys,rfl,rfl,ha,hb,fx,fy,q⟩:=h
 cases rx
 cases ry
 obtain ⟨us,r1,p1,z1⟩:=I.list ha
 obtain ⟨ws,r2,p2,z2⟩:=I.list hb
 have l1:=r1.length
 have l2:=r2.length
 by_cases hl:xs.length=ys.length
 . refine SeqAt.RcNeAt.lists p1.isList p2.isList (by simp only [yen];omega) hu (fun j h1 h2=>qhs r1 r2 fx fy j h1 h2) X.prog X.w _ _ ⟨.bl _,H,I,rfl,?_⟩
   have e:qgf xs ys=(List.range us.toArray.size).all fun j=>eqV (xs.getD j .non) (ys.getD j .non):=by
     unfold qgf
     rw [show (xs.length==ys.length)=true by simpa using hl,yez,yen,l1]
   rw [<-e]
   exact q
 . refine SeqAt.RcNeAt.lists_lengths p1.isList p2.isList (by simp only [yen,bne_iff_ne];omega) hu X.prog X.w _ _ ⟨.bl _,H,I,rfl,?_⟩
   have e:qgf xs ys=false:=by
     unfold qgf
     rw [show (xs.length==ys.length)=false by simpa using hl,ydv]
   rw [e] at q
   exact q
def qnj (K:PySem.W.Frag):R2:=fun x y H Q=>∃l b xs zs,x = .ref l/\y = .ref b/\SqL K H l xs/\SqL K H b zs/\xs.length+zs.length<=sizeLine/\∀p,H p=none->Q (.ref p) (upd H p (.lst (xs++zs)))
theorem qpv:OpR X (binaryOp .Add) (qnj X.K):=by
 intro pins s σ H x y v u Q I rx ry h
 obtain ⟨l,b,xs,zs,rfl,rfl,hl,hb,hz,q⟩:=h
 cases rx
 cases ry
 obtain ⟨us,r1,p1,z1⟩:=I.list hl
 obtain ⟨ws,r2,p2,z2⟩:=I.list hb
 obtain ⟨⟨c1,d1,t1,s1⟩,n1,e1,ec1,ed1,et1⟩:=p1
 obtain ⟨⟨c2,d2,t2,s2⟩,n2,e2,ec2,ed2,et2⟩:=p2
 simp only at ec1 ed1 et1 ec2 ed2 et2
 subst ec1 ed1 et1 ec2 ed2 et2
 have l1:=r1.length
 have l2:=r2.length
 refine concat_meets ⟨_,e1,rfl⟩ ⟨_,e2,rfl⟩ noFill_list_add seq_list_add PySem.F.slot_list_add PySem.F.entry_list_add (PySem.F.args_list_add_2 _ _) (list_addW l b us.toArray ws.toArray n1 n2 none none s1 s2 (by simp only [yen];omega)) ⟨e1,e2,?_⟩
 have ea:us.toArray++ws.toArray=(us++ws).toArray:=by simp
 rw [ea]
 exact ⟨.ref _,_,I.lnew (t':=s.toks) (r1.append r2) (by rw [ycm];omega),rfl,q _ I.fresh⟩
theorem qly:MtR X "int.bit_length" (fun x vs H Q=>∃i,x = .int i/\vs=[]/\Q (.int (Builtin.Int.intBits i)) H):=by
 intro pins s σ H x vs v us Q I rx rv h
 obtain ⟨i,rfl,rfl,q⟩:=h
 obtain ⟨t,rfl⟩:=rx
 cases rv
 exact call_int_bit_length ⟨.int _,H,I.tok _,⟨_,rfl⟩,q⟩
theorem qdX {x:Str} {i:Int} {p:Pos} (h:∃t,X.mg x=some (.int i t)) (hg:Gl X x) (hd:(x==("__debug__" : Str))=false:=by decide):PE X (.Name x p) (tC (.int i)):=by
 obtain ⟨t,h⟩:=h
 exact qcj hg h ⟨t,rfl⟩ hd
theorem qui {CX:CXT} {P:Program} {w:World} {K:PySem.W.Frag} {mg:Str->Option Value} {base:Heap} {N:List Str} {qual:Str} {scope:Scope} {f:Addr} {cd:Value} {A:Around} {outer:List Env} {s:Shared} {H:Hp} {E:XK} :
 (qg6 CX P w K mg base N qual scope f cd A outer s H E).K=K:=rfl
theorem qgJ {K:PySem.W.Frag} {H:Hp} {a:Addr} {xs:List V} (h:H a=some (.lst xs)):tyV K "list" (.ref a) H := .inl ⟨rfl,xs,SqL.of h⟩
theorem qpG {K:PySem.W.Frag} {H:Hp} {a:Addr} {xs:List V}:tyV K "list" (.ref a) (upd H a (.lst xs))↔True:=⟨fun _=>trivial,fun _=>qgJ qai⟩
theorem qqR {H:Hp} {a:Addr} {xs:List V} (h:H a=some (.lst xs)):qdZ H (.ref a)=some "list" := by unfold qdZ;dsimp only;rw [h]
theorem qas.upd {H H':Hp} {a:Addr} {o:HO} (e:qas H H') (h:H a=none):qas H (L2.upd H' a o):=fun b u q=>by
 rw [qaq (fun z=>by rw [z,h] at q;cases q)]
 exact e b u q
theorem qas.new {H:Hp} {a:Addr} {o:HO} (h:H a=none):qas H (L2.upd H a o):=(qas.refl H).upd h
section
variable {K:PySem.W.Frag} {H:Hp} {Q:VK} {i j:Int} {a:Addr} {b c:Bool} {z z':Str} {y:V} {g:Int->Int->V}
theorem qpD:qnj K (.int i) y H Q↔False:=⟨fun ⟨_,_,_,_,e,_⟩=>(nomatch e),False.elim⟩
theorem qrD:qqL K (.int i) y H Q↔False:=⟨fun ⟨_,_,_,_,e,_⟩=>(nomatch e),False.elim⟩
theorem qq5:qqL K (.bl b) y H Q↔False:=⟨fun ⟨_,_,_,_,e,_⟩=>(nomatch e),False.elim⟩
theorem qrk:qqL K (.str z) y H Q↔False:=⟨fun ⟨_,_,_,_,e,_⟩=>(nomatch e),False.elim⟩
theorem qre:qqL K .non y H Q↔False:=⟨fun ⟨_,_,_,_,e,_⟩=>(nomatch e),False.elim⟩
theorem qrz:qsg K (.int i) y H Q↔False:=⟨fun ⟨_,_,_,_,e,_⟩=>(nomatch e),False.elim⟩
theorem qq1:qsg K (.bl b) y H Q↔False:=⟨fun ⟨_,_,_,_,e,_⟩=>(nomatch e),False.elim⟩
theorem qqQ:qsg K (.str z) y H Q↔False:=⟨fun ⟨_,_,_,_,e,_⟩=>(nomatch e),False.elim⟩
theorem qqG:qsg K .non y H Q↔False:=⟨fun ⟨_,_,_,_,e,_⟩=>(nomatch e),False.elim⟩
theorem qty:rEq (.ref a) y H Q↔False:=⟨fun ⟨e,_⟩=>by cases y<;>exact absurd (show false=true from e) ydu,False.elim⟩
theorem qtz:rNe (.ref a) y H Q↔False:=⟨fun ⟨e,_⟩=>by cases y<;>exact absurd (show false=true from e) ydu,False.elim⟩
theorem qs4:rEq (.int i) (.int j) H Q↔Q (.bl (decide (i=j))) H:=by unfold rEq;simp [show qm4 (.int i) (.int j)=true from rfl]
theorem qtt:rNe (.int i) (.int j) H Q↔Q (.bl (!decide (i=j))) H:=by unfold rNe;simp [show qm4 (.int i) (.int j)=true from rfl]
theorem qtd:rEq (.bl b) (.bl c) H Q↔Q (.bl (decide (b=c))) H:=by unfold rEq;simp [show qm4 (.bl b) (.bl c)=true from rfl]
theorem qs3:rNe (.bl b) (.bl c) H Q↔Q (.bl (!decide (b=c))) H:=by unfold rNe;simp [show qm4 (.bl b) (.bl c)=true from rfl]
theorem qsP:rEq (.str z) (.str z') H Q↔Q (.bl (decide (z=z'))) H:=by unfold rEq;simp [show qm4 (.str z) (.str z')=true from rfl]
theorem qtg:rNe (.str z) (.str z') H Q↔Q (.bl (!decide (z=z'))) H:=by unfold rNe;simp [show qm4 (.str z) (.str z')=true from rfl]
theorem qtn:rI0 g (.ref a) y H Q↔False:=⟨fun ⟨_,_,e,_⟩=>(nomatch e),False.elim⟩
theorem qsZ:rI0 g (.int i) (.int j) H Q↔Q (g i j) H:=⟨fun ⟨_,_,e,e',q⟩=>by cases e;cases e';exact q,fun q=>⟨i,j,rfl,rfl,q⟩⟩
theorem qua {C:Int->Int->Prop}:rI C g (.int i) (.int j) H Q↔C i j/\Q (g i j) H:=⟨fun ⟨_,_,e,e',q⟩=>by cases e;cases e';exact q,fun q=>⟨i,j,rfl,rfl,q⟩⟩
theorem qnm {xs:List V}:qlb (.ref a) [y] (upd H a (.lst xs)) Q↔xs.length<sizeLine/\Q .non (upd H a (.lst (xs++[y]))):=by
 constructor
 . rintro ⟨l,ys,v,e1,e2,e3,e4,q⟩
   cases e1;cases e2
   rw [qai] at e3
   cases e3
   rw [qeR] at q
   exact ⟨e4,q⟩
 . rintro ⟨e,q⟩
   exact ⟨a,xs,y,rfl,rfl,qai,e,by rw [qeR];exact q⟩
theorem qkw (h0:0<=j) (h1:j<=1000) (h2:-1000<=i) (h3:i<=1000):qtK i j:=⟨h0,by omega,by omega⟩
end
def qgB (J:It) (g:TG) (tb:TS) (D:qeY) (σ:St) (H:Hp):Prop:=∃W:Nat->Nat->St->Hp->Prop,(∃m,W 0 m σ H)/\∀i m σ H,W i m σ H ->
 (J.stop i H/\D.nx σ H)\/(J.go i H/\∃N:St->Hp->Prop,(∀σ' H',N σ' H'->∃m',m'<m/\W (i+1) m' σ' H')/\∀x H',J.yld i H x H'->g x σ H' fun σ2 H2=>tb { D with nx:=N,ct:=N,bk:=D.nx } σ2 H2)
def qdN (J:It) (nt:Nat) (caps:List Nat) (g:TG) (tt:TT) (te:TE) (σ:St) (H:Hp) (Q:VK):Prop:=∃W:Nat->Nat->List V->Hp->Prop,(∃m,W 0 m [] H)/\∀i m ys H2,W i m ys H2 ->
 (J.stop i H2/\ys.length<=sizeLine/\∀p,H2 p=none->Q (.ref p) (upd H2 p (.lst ys))) \/
 (J.go i H2/\ys.length<sizeLine/\∀x H3,J.yld i H2 x H3->g x (qbE nt caps σ) H3 fun σ4 H4=>tt σ4 H4 fun b H5 =>
   if b=true then te σ4 H5 fun y H6=>∃m',m'<m/\W (i+1) m' (ys++[y]) H6 else ∃m',m'<m/\W (i+1) m' ys H5)
section
variable {K:PySem.W.Frag} {g:TG} {tb:TS} {D:qeY} {σ:St} {H:Hp} {a:Addr} {xs:List V} {tl:TE} {ta:TA} {nt:Nat} {caps:List Nat} {tt:TT} {te:TE} {Q:VK}
theorem qrp:qoq (qpd K tl) g tb D σ H↔tl σ H fun x H1=>∃a,x = .ref a/\(∃xs,SqL K H1 a xs)/\qgB (Itl K a) g tb D σ H1:=Iff.rfl
theorem qpx:qoq (qoU ta) g tb D σ H↔ta σ H fun vs H1=>∃j:Int,vs=[.int j]/\-(2^62)<=j/\j<2^62/\qgB (Itr 0 j.toNat) g tb D σ H1:=Iff.rfl
theorem qqi:qoq (qr5 ta) g tb D σ H↔ta σ H fun vs H1=>∃i j:Int,vs=[.int i,.int j]/\(-(2^62)<=i/\i<2^62/\-(2^62)<=j/\j<2^62)/\qgB (Itr i (j-i).toNat) g tb D σ H1:=Iff.rfl
theorem qp2:qfO nt caps (qpd K tl) g tt te σ H Q↔tl σ H fun x H1=>∃a,x = .ref a/\(∃xs,SqL K H1 a xs)/\qdN (Itl K a) nt caps g tt te σ H1 Q:=Iff.rfl
theorem qne:qfO nt caps (qoU ta) g tt te σ H Q↔ta σ H fun vs H1=>∃j:Int,vs=[.int j]/\-(2^62)<=j/\j<2^62/\qdN (Itr 0 j.toNat) nt caps g tt te σ H1 Q:=Iff.rfl
theorem qmN:qfO nt caps (qr5 ta) g tt te σ H Q↔ta σ H fun vs H1=>∃i j:Int,vs=[.int i,.int j]/\(-(2^62)<=i/\i<2^62/\-(2^62)<=j/\j<2^62)/\qdN (Itr i (j-i).toNat) nt caps g tt te σ H1 Q:=Iff.rfl
theorem qq3 (Pv:Nat->St->Hp->Prop) (h0:Pv 0 σ H) (hl:∀i σ H,i<=xs.length->Pv i σ H->SqL K H a xs)
 (hs:∀i x σ H,xs[i]?=some x->Pv i σ H->g x σ H fun σ2 H2=>tb { D with nx:=Pv (i+1),ct:=Pv (i+1),bk:=D.nx } σ2 H2) (hd:∀σ H,Pv xs.length σ H->D.nx σ H):qgB (Itl K a) g tb D σ H:=qnv Pv h0 hl hs hd
theorem qs8 {lo:Int} {n:Nat} (Pv:Nat->St->Hp->Prop) (h0:Pv 0 σ H)
 (hs:∀i σ H,i<n->Pv i σ H->g (.int (lo+i)) σ H fun σ2 H2=>tb { D with nx:=Pv (i+1),ct:=Pv (i+1),bk:=D.nx } σ2 H2) (hd:∀σ H,Pv n σ H->D.nx σ H):qgB (Itr lo n) g tb D σ H:=qlA Pv h0 hs hd
end
section
variable {t u t' u':TS} {te:TE} {g:TG} {c:TT} {D:qeY} {σ:St} {H:Hp} {wi:TI} {tb:TS}
theorem qnn:qjT (qoh te g) u D σ H↔te σ H fun x H1=>g x σ H1 (u D):=Iff.rfl
theorem qkR:qjT (qpk te) u D σ H↔te σ H fun _ H1=>u D σ H1:=Iff.rfl
theorem qmT:qjT (qoq wi g tb) u D σ H↔qoq wi g tb { D with nx:=u D } σ H:=Iff.rfl
theorem qj8:qjT (qjc c tb) u D σ H↔qjc c tb { D with nx:=u D } σ H:=Iff.rfl
theorem qmK:qjT (qqC c (qsX te) qj5) u D σ H↔c σ H fun b H1=>if b=true then te σ H1 D.rt else u D σ H1:=Iff.rfl
theorem qoY:qqC c t u D σ H↔c σ H fun b H1=>if b=true then t D σ H1 else u D σ H1:=Iff.rfl
theorem qaI (I:St->Hp->Prop) (h2:∀σ' H',I σ' H'->u D σ' H') (h1:∀N:St->Hp->Prop,(∀σ' H',I σ' H'->N σ' H')->t { D with nx:=N } σ H):qjT t u D σ H:=h1 (u D) h2
end
theorem rdg {t:TS} {D:qeY} {σ σ':St} {H:Hp} (e:σ=σ') (h:t D σ' H):t D σ H:=e▸h
def qsk (K:PySem.W.Frag) (x y:V) (H:Hp) (b:Bool):Prop:=(qm4 x y=true/\b=decide (x=y)) \/
 ∃a c xs ys,x = .ref a/\y = .ref c/\SqL K H a xs/\SqL K H c ys/\xs.all qb2=true/\ys.all qb2=true/\b=qgf xs ys
def qox (K:PySem.W.Frag):R2:=fun x y H Q=>∃b,qsk K x y H b/\Q (.bl b) H
def qoi (K:PySem.W.Frag):R2:=fun x y H Q=>∃b,qsk K x y H b/\Q (.bl (!b)) H
def qt4 (K:PySem.W.Frag) (x y:V) (H:Hp) (v:V):Prop:=(∃p xs i,x = .ref p/\y = .int i/\SqL K H p xs/\atI xs i=some v)\/∃p xs i,x = .ref p/\y = .int i/\SqT K H p xs/\atI xs i=some v
def qsL (K:PySem.W.Frag):R2:=fun x y H Q=>∃v,qt4 K x y H v/\Q v H
section
variable {K:PySem.W.Frag} {H:Hp} {Q:VK} {i j:Int} {a c:Addr} {b b':Bool} {z z':Str} {xs ys:List V}
theorem qlP:qsk K (.int i) (.int j) H b↔b=decide (i=j):=by
 constructor
 . rintro (⟨_,e⟩ | ⟨_,_,_,_,e,_⟩)
   . rw [e];simp
   . cases e
 . intro e;exact .inl ⟨rfl,by rw [e];simp⟩
theorem qol {b'':Bool}:qsk K (.bl b') (.bl b) H b''↔b''=decide (b'=b):=by
 constructor
 . rintro (⟨_,e⟩ | ⟨_,_,_,_,e,_⟩)
   . rw [e];simp
   . cases e
 . intro e;exact .inl ⟨rfl,by rw [e];simp⟩
theorem qou:qsk K (.str z) (.str z') H b↔b=decide (z=z'):=by
 constructor
 . rintro (⟨_,e⟩ | ⟨_,_,_,_,e,_⟩)
   . rw [e];simp
   . cases e
 . intro e;exact .inl ⟨rfl,by rw [e];simp⟩
theorem qqU:qox K (.int i) (.int j) H Q↔Q (.bl (decide (i=j))) H:=by unfold qox;simp [qlP]
theorem qsa:qoi K (.int i) (.int j) H Q↔Q (.bl (!decide (i=j))) H:=by unfold qoi;simp [qlP]
theorem qrZ:qox K (.bl b) (.bl b') H Q↔Q (.bl (decide (b=b'))) H:=by unfold qox;simp [qol]
theorem qrA:qoi K (.bl b) (.bl b') H Q↔Q (.bl (!decide (b=b'))) H:=by unfold qoi;simp [qol]
theorem qkT:qox K (.str z) (.str z') H Q↔Q (.bl (decide (z=z'))) H:=by unfold qox;simp [qou]
theorem qhk:qoi K (.str z) (.str z') H Q↔Q (.bl (!decide (z=z'))) H:=by unfold qoi;simp [qou]
theorem qkE (h1:SqL K H a xs) (h2:SqL K H c ys) (f1:xs.all qb2=true) (f2:ys.all qb2=true) (q:Q (.bl (qgf xs ys)) H):qox K (.ref a) (.ref c) H Q:=⟨_,.inr ⟨a,c,xs,ys,rfl,rfl,h1,h2,f1,f2,rfl⟩,q⟩
theorem qtp (h1:SqL K H a xs) (h2:SqL K H c ys) (f1:xs.all qb2=true) (f2:ys.all qb2=true) (q:Q (.bl (!qgf xs ys)) H):qoi K (.ref a) (.ref c) H Q:=⟨_,.inr ⟨a,c,xs,ys,rfl,rfl,h1,h2,f1,f2,rfl⟩,q⟩
theorem qbg {v:V} (h:SqL K H a xs) (e:atI xs i=some v) (q:Q v H):qsL K (.ref a) (.int i) H Q:=⟨v,.inl ⟨a,xs,i,rfl,rfl,h,e⟩,q⟩
theorem qnf {v:V} (h:SqT K H a xs) (e:atI xs i=some v) (q:Q v H):qsL K (.ref a) (.int i) H Q:=⟨v,.inr ⟨a,xs,i,rfl,rfl,h,e⟩,q⟩
theorem qaz (h:X.K=K) (hu:X.A.units<cLine):OpR X (compareOp .Eq) (qox K):=by
 subst h
 intro pins s σ H x y v u Q I rx ry q
 obtain ⟨b,hb,q⟩:=q
 rcases hb with ⟨hs,rfl⟩ | ⟨a,c,xs,ys,rfl,rfl,h1,h2,f1,f2,rfl⟩
 . exact qte pins s σ H x y v u Q I rx ry ⟨hs,q⟩
 . exact qqO hu pins s σ H _ _ v u Q I rx ry ⟨a,c,xs,ys,rfl,rfl,h1,h2,f1,f2,q⟩
theorem qgk (h:X.K=K) (hu:X.A.units<cLine):OpR X (compareOp .NotEq) (qoi K):=by
 subst h
 intro pins s σ H x y v u Q I rx ry q
 obtain ⟨b,hb,q⟩:=q
 rcases hb with ⟨hs,rfl⟩ | ⟨a,c,xs,ys,rfl,rfl,h1,h2,f1,f2,rfl⟩
 . exact qsN pins s σ H x y v u Q I rx ry ⟨hs,q⟩
 . exact qru hu pins s σ H _ _ v u Q I rx ry ⟨a,c,xs,ys,rfl,rfl,h1,h2,f1,f2,q⟩
theorem qaO (h:X.K=K):OpR X (binaryOp .Add) (qnj K):=h▸qpv
theorem qk7 (h:X.K=K):OpR X (compareOp .NotIn) (rIn K true):=h▸qhN
theorem qpL {r r':R2} (h:IxR X r) (hr:∀x y H Q,r' x y H Q->r x y H Q):IxR X r' :=
 fun value slice pins s σ H x y v u Q I rx ry q e=>h value slice pins s σ H x y v u Q I rx ry (hr _ _ _ _ q) e
theorem qcl (h:X.K=K):IxR X (qsL K):=by
 subst h
 refine qpL qq2 fun x y H Q q=>?_
 obtain ⟨z,hz,q⟩:=q
 rcases hz with ⟨p,xs,i,e1,e2,e3,e4⟩ | ⟨p,xs,i,e1,e2,e3,e4⟩
 . exact .inl ⟨p,xs,i,z,e1,e2,e3,e4,q⟩
 . exact .inr (.inl ⟨p,xs,i,z,e1,e2,e3,e4,q⟩)
theorem qaV (h:X.K=K):qcM X (.builtin "len") (fun xs H Q=>∃p ys,xs=[.ref p]/\(SqL K H p ys\/SqT K H p ys)/\Q (.int ys.length) H):=h▸qhf
theorem qsy (h:X.K=K):SlR X (qtP K):=h▸qqb
end
def sp1 (R:V->Hp->VK->Prop):Sp:=fun vs H Q _=>∃a,vs=[a]/\R a H Q
def sp2 (R:V->V->Hp->VK->Prop):Sp:=fun vs H Q _=>∃a b,vs=[a,b]/\R a b H Q
def sp3 (R:V->V->V->Hp->VK->Prop):Sp:=fun vs H Q _=>∃a b c,vs=[a,b,c]/\R a b c H Q
def sp4 (R:V->V->V->V->Hp->VK->Prop):Sp:=fun vs H Q _=>∃a b c d,vs=[a,b,c,d]/\R a b c d H Q
def qme (K:PySem.W.Frag):Sp:=sp1 fun x H Q=>∃(a:Addr) (ns:List Int),x = .ref a/\SqL K H a (ns.map V.int)/\ns.length<=63/\∀H',Q (.bl true) H'
end
end L2
namespace Tim
open PySem PyProof.Rows
section
variable {prog:Program} {w:World} {A:Around} {E:Value->Shared->Prop} {s:Shared}
theorem sort_any {a:Addr} {vs:List Value} {ns:List Int} {n:Nat} {P:Fin->Shared->Prop} (at0:s.heap.get? a=some (seqObj "list" vs.toArray n)) (hI:IntsAre vs ns) (hz:vs.length<=63)
   (h:∀(out:Array Value) (ms:List Int),IntsAre out.toList ms->ms.Perm ns->ms.Pairwise (·<=·)->P (.done (.ret .none)) { s with heap:=sortedHeap s.heap a vs out }) :
   wpAny (model prog w) A (Builtin.«list.sort» ⟨[.ref a],[]⟩) P E s:=by
 exact list_sort_tree at0 hI (by omega) h
theorem sorted_any {l:Addr} {vs:List Value} {ns:List Int} {Q:Value->Shared->Prop} (hl:s.heap.IsList l vs.toArray) (hI:IntsAre vs ns) (hz:vs.length<=63)
   (h:∀(out:Array Value) (ms:List Int),IntsAre out.toList ms->ms.Perm ns->ms.Pairwise (·<=·)->Q (.ref (s.heap.objs.size+1)) { s with heap:=sortedAll s.heap vs out }) :
   wpAny (model prog w) A (call (.builtin "sorted") [.ref l]) Q E s:=by
 have lim:vs.length<=sizeLine:=by rw [sizeLine_eq];omega
 refine Calls.call_function_entry kind_sorted plain_sorted entry_sorted (args_sorted1 _) (wpAny_bind (m:=checkCount "sorted" 1 1 _) (wpAny_pure (wpAny_bind (collect_list hl (wpAny_bind (wpAny_newList ?_ lim)) lim))))
 have e:((s.heap.push (seqObj "list" #[] 0)).update s.heap.objs.size (Obj.mapSeq (·++vs.toArray))).objs.size=s.heap.objs.size+1:=by rw [Heap.size_update];exact size_push' _ _
 have at0:(((s.heap.push (seqObj "list" #[] 0)).update s.heap.objs.size (Obj.mapSeq (·++vs.toArray))).push (seqObj "list" vs.toArray 0)).get? (s.heap.objs.size+1)=some (seqObj "list" vs.toArray 0):=e▸ycq _ rfl
 dsimp only
 rw [e]
 exact wpAny_bind (wpAny_holding (wpAny_call_entry slot_list_sort ⟨_,at0,rfl⟩ entry_list_sort (sort_any at0 hI hz fun out ms m1 m2 m3=>⟨_,rfl,wpAny_pure ⟨_,rfl,h out ms m1 m2 m3⟩⟩) (args_list_sort _)))
end
end Tim
namespace STb
open PySem PySem.SetTable PyProof.Rows
section
variable {prog:Program} {w:World} {A:Around} {E:Value->Shared->Prop} {s:Shared} {I S:Addr}
theorem qka {ns:List Int} {Q:Value->Shared->Prop} (hh:A.handled=none) (r:RS prog w s.heap S ns) (hbig:ns.length<=63)
   (h:∀(l:Addr) (vs:List Value) (ms:List Int) (n:Nat) (s':Shared),IntsAre vs ms->ms.Perm ns->ms.Pairwise (·<=·)->s.heap.objs.size<=l->s'.heap.get? l=some { cls := .type "list",data := .seq vs.toArray n } ->
     (∀b o,s.heap.get? b=some o->s'.heap.get? b=some o)->s'.gens=s.gens->s'.os=s.os->Q (.ref l) s') :
   wpAny (model prog w) A (call (.builtin "sorted") [.ref S]) Q E s:=by
 refine Calls.call_function_entry kind_sorted plain_sorted entry_sorted (args_sorted1 _) ?_
 unfold Builtin.«sorted»
 refine wpAny_bind (m:=checkCount "sorted" 1 1 _) (wpAny_pure ?_)
 have hhs:∀{A':Around},A'.handled=A.handled->A'.handled=none:=fun e=>e.trans hh
 refine wpAny_bind (qh6 (by first | exact hh | simp [hh]) r fun s1 vs ms hi hp kp szl eg eo=>?_)
 have hv:vs.length<=63:=by
   have e1:=hi.length
   have e2:=hp.length_eq
   omega
 have hz:vs.length<=sizeLine:=ybt hv (by decide)
 refine wpAny_bind (wpAny_newList ?_ hz)
 have g1:(s1.heap.push (seqObj "list" vs.toArray 0)).get? s1.heap.objs.size=some (seqObj "list" vs.toArray 0):=ycq _ rfl
 refine wpAny_bind (wpAny_holding (wpAny_call_entry slot_list_sort ⟨_,g1,rfl⟩ entry_list_sort (Tim.sort_any g1 hi hv fun out ns' a1 a2 a3=>⟨_,rfl,?_⟩) (args_list_sort _)))
 obtain ⟨e,he⟩:∃e,(sortedHeap (s1.heap.push (seqObj "list" vs.toArray 0)) s1.heap.objs.size vs out).get? s1.heap.objs.size=some (seqObj "list" out e):=sortedHeap_at g1
 have hle:s.heap.objs.size<=s1.heap.objs.size:=ybs szl
 refine wpAny_pure ⟨_,rfl,h _ out.toList ns' e _ a1 (a2.trans hp) a3 hle (by rw [yfb];exact he) (fun b o q=>?_) eg eo⟩
 have q1:=kp b o q
 have hb:b<s1.heap.objs.size:=ycs q1
 show (sortedHeap (s1.heap.push (seqObj "list" vs.toArray 0)) s1.heap.objs.size vs out).get? b=some o
 rw [sortedHeap_old (ycu hb) (by rw [size_push'];exact ycv hb)]
 exact ycr _ q1
end
end STb
namespace L2
open PySem PySem.Spec PyProof.Rows STb
def qlS (P:Program) (w:World) (a:Addr) (ns:List Int):HO := .ext fun h=>RS P w h a ns
def qdS (ns:List Int):List Int:=ns.foldl qdn []
theorem qeV (ns:List Int):qcz (fun i=>ns.getD i 0) ns.length=qdS ns:=by
 unfold qcz qdS
 congr 1
 refine ydj (by simp) fun i h1 h2=>?_
 have:i<ns.length:=by simpa using h1
 simp [List.getD,this]
theorem qdU {ns:List Int} {k:Int}:k∈qdS ns↔k∈ns:=by
 have key:∀(l acc:List Int),k∈l.foldl qdn acc↔k∈acc\/k∈l:=fun l=>by
   induction l with
   | nil=>intro acc;simp
   | cons x r ih =>
     intro acc
     rw [ybk,ih,qhJ,ybd,or_assoc]
 rw [qdS,key]
 simp
theorem qfK (ns:List Int):(qdS ns).Nodup:=by
 have key:∀(l acc:List Int),acc.Nodup->(l.foldl qdn acc).Nodup:=fun l=>by
   induction l with
   | nil=>intro acc h;exact h
   | cons x r ih=>intro acc h;exact ih _ (qgR h)
 exact key ns [] List.nodup_nil
theorem qlt (ns:List Int):(qdS ns).length<=ns.length:=by
 rw [<-qeV]
 exact qft _ _
theorem qfg (val:Nat->Int):∀i,(qcz val i).Nodup
 | 0=>by simp [qcz]
 | i+1=>by
   rw [qdb]
   exact qgR (qfg val i)
theorem qh9:∀(n:Nat) (L:List Nat),L.Nodup->(∀x∈L,x<n)->L.length<=n
 | 0,L,_,h=>by
   cases L with
   | nil=>exact yax _
   | cons a r=>exact absurd (h a (by simp)) (by omega)
 | n+1,L,hn,h=>by
   by_cases hm:n∈L
   . have h1:=qh9 n (L.erase n) (hn.erase n) fun x hx=>by
       obtain ⟨h2,h3⟩:=hn.mem_erase_iff.mp hx
       have:=h x h3
       omega
     rw [yfc hm] at h1
     omega
   . have:=qh9 n L hn fun x hx=>by
       have:=h x hx
       have:x≠n:=fun z=>hm (z▸hx)
       omega
     omega
theorem qrr {L:List Int} (hn:L.Nodup) (h:∀z∈L,0<=z/\z<1000):L.length<=1000:=by
 have:=qh9 1000 (L.map Int.toNat) (by
   unfold List.Nodup
   rw [ybo]
   refine List.Pairwise.imp_of_mem (fun {a b} ha hb e=>?_) hn
   have:=h a ha
   have:=h b hb
   omega) fun x hx=>by
   obtain ⟨z,hz,rfl⟩:=ybn.mp hx
   have:=h z hz
   omega
 simpa using this
section
variable {X:Cx} {P:Program} {w:World} {K:PySem.W.Frag}
def qpP (P:Program) (w:World) (K:PySem.W.Frag):List V->Hp->VK->Prop:=fun xs H Q=>∃(p:Addr) (ns:List Int),xs=[.ref p]/\SqL K H p (ns.map V.int)/\(ns.length<=1000\/∀z∈ns,0<=z/\z<1000)/\∀a,H a=none->Q (.ref a) (upd H a (qlS P w a (qdS ns)))
theorem qkG (hP:X.prog=P) (hw:X.w=w) (hK:X.K=K) (hc:X.calm=true):qcM X (.type "set") (qpP P w K):=by
 subst hP hw hK
 intro pins s σ H xs us Q I r h
 obtain ⟨p,ns,rfl,hq,hl,q⟩:=h
 obtain ⟨u,rfl,ru⟩:=qfH r
 cases ru
 obtain ⟨its,rv,pl,hz⟩:=I.list hq
 have hi:IntsAre its ns:=qgg rv
 have hle:=hi.length
 have few:∀i,i<=its.toArray.size->(qcz (fun i=>ns.getD i 0) i).length+1<scanBound:=fun i hi'=>by
   show _<4096
   rw [yen] at hi'
   rcases hl with hl | hl
   . have:=qft (fun i=>ns.getD i 0) i
     omega
   . have h1:∀i,i<=ns.length->(qcz (fun i=>ns.getD i 0) i).Nodup:=fun i _=>qfg _ i
     have h2:=qrr (h1 i (by omega)) fun z hz=>by
       obtain ⟨j,hj,rfl⟩:=(qhU _ _ _).mp hz
       have hj2:j<ns.length:=by omega
       rw [yey,ydc hj2]
       exact hl _ (yck hj2)
     omega
 refine wpAny_with_toks I.tk (ql1 (I.ok.hd hc) pl.isList (by simpa using hi) few fun h' tk rs kp htk=>?_)
 have em:qcz (fun i=>ns.getD i 0) its.toArray.size=qdS ns:=by
   have e:its.toArray.size=ns.length:=by simp [hle]
   rw [e,qeV]
 rw [em] at rs
 refine ⟨.ref _,_,I.laid (ht:=htk) (a:=s.heap.objs.size) (o:=qlS X.prog X.w s.heap.objs.size (qdS ns)) (t':=tk) (fun b o e=>kp b o (ycs e) e) (yax _) ⟨rs,?_,fun h1 h2 r1 k=>r1.keep k⟩,rfl,q _ I.fresh⟩
 obtain ⟨es,ep,t,e,_⟩:=rs
 exact ⟨_,e⟩
def qr3 (P:Program) (w:World) (K:PySem.W.Frag):List V->Hp->VK->Prop:=fun xs H Q=>∃(p:Addr) (ns:List Int),xs=[.ref p]/\SqL K H p (ns.map V.int)/\ns.length<=1000/\∀a,H a=none->Q (.ref a) (upd H a (qlS P w a (qdS ns)))
theorem qhp (hP:X.prog=P) (hw:X.w=w) (hK:X.K=K) (hc:X.calm=true):qcM X (.type "set") (qr3 P w K):=by
 intro pins s σ H xs us Q I r h
 obtain ⟨p,ns,e,hq,hl,q⟩:=h
 exact qkG hP hw hK hc pins s σ H xs us Q I r ⟨p,ns,e,hq,.inl hl,q⟩
def qrM (P:Program) (w:World):List V->Hp->VK->Prop:=fun xs H Q=>∃(a:Addr) (ns:List Int),xs=[.ref a]/\H a=some (qlS P w a ns)/\ns.length<=63/\∀(l:Addr) (ms:List Int),H l=none->ms.Perm ns->ms.Pairwise (·<=·)->Q (.ref l) (upd H l (.lst (ms.map V.int)))
theorem qjZ (hP:X.prog=P) (hw:X.w=w) (hc:X.calm=true):qcM X (.builtin "sorted") (qrM P w):=by
 subst hP hw
 intro pins s σ H xs us Q I r h
 obtain ⟨a,ns,rfl,ha,hl,q⟩:=h
 obtain ⟨u,rfl,ru⟩:=qfH r
 cases ru
 have rs:RS X.prog X.w s.heap a ns:=(I.hok a _ ha).1
 refine wpAny_with_toks I.tk (qka (I.ok.hd hc) rs hl fun l vs ms n s' hi hp pw hle g kp eg eo htk=>?_)
 obtain ⟨h',g',d',t',o'⟩:=s'
 have e1:o'=s.os:=eo
 have e2:g'=s.gens:=eg
 subst e1 e2
 have hn:H l=none:=I.hok.fresh hle
 have e3:=hi.length
 have e4:=hp.length_eq
 have hok:=I.hok.laid (h':=h') (a:=l) (o := .lst (ms.map V.int)) kp hle ⟨by rw [ycj];exact ybt (show ms.length<=63 by omega) (by decide),vs,n,qdY hi,g⟩
 refine ⟨.ref l,_,I.call' (ht:=htk) (s':=⟨h',s.gens,d',t',s.os⟩) (ch:=[]) rfl (Un.laid kp hle hn) hok I.bare (fun _ z=>nomatch z),rfl,q l ms hn hp pw⟩
def qr9 (K:PySem.W.Frag):List V->Hp->VK->Prop:=fun xs H Q=>∃(p:Addr) (ns:List Int),xs=[.ref p]/\SqL K H p (ns.map V.int)/\ns.length<=63/\∀(l:Addr) (ms:List Int),H l=none->ms.Perm ns->ms.Pairwise (·<=·)->Q (.ref l) (upd H l (.lst (ms.map V.int)))
theorem qjW (hK:X.K=K):qcM X (.builtin "sorted") (qr9 K):=by
 subst hK
 intro pins s σ H xs us Q I r h
 obtain ⟨p,ns,rfl,hq,hl,q⟩:=h
 obtain ⟨u,rfl,ru⟩:=qfH r
 cases ru
 obtain ⟨its,rv,pl,hz⟩:=I.list hq
 have hi:IntsAre its ns:=qgg rv
 have hle:=hi.length
 refine Tim.sorted_any pl.isList hi (by omega) fun out ms a1 a2 a3=>?_
 obtain ⟨e,he⟩:=sortedAll_at s.heap its out
 have hn:H (s.heap.objs.size+1)=none:=I.hok.fresh (ycp _)
 have e4:=a2.length_eq
 refine ⟨.ref _,_,I.laid (a:=s.heap.objs.size+1) (o := .lst (ms.map V.int)) (t':=s.toks) (fun b o z=>sortedAll_old z) (ycp _) ⟨by rw [ycj];exact ybt (show ms.length<=63 by omega) (by decide),out.toList,e,qdY a1,by rw [yfb];exact he⟩,rfl,q _ ms hn a2 a3⟩
def qrF (P:Program) (w:World) (K:PySem.W.Frag):List V->Hp->VK->Prop:=fun xs H Q=>∃(a:Addr) (ns:List Int),xs=[.ref a]/\(SqL K H a (ns.map V.int)\/H a=some (qlS P w a ns))/\ns.length<=63 /\
 ∀(l:Addr) (ms:List Int),H l=none->ms.Perm ns->ms.Pairwise (·<=·)->Q (.ref l) (upd H l (.lst (ms.map V.int)))
theorem qf6 (hP:X.prog=P) (hw:X.w=w) (hK:X.K=K) (hc:X.calm=true):qcM X (.builtin "sorted") (qrF P w K):=by
 intro pins s σ H xs us Q I r h
 obtain ⟨a,ns,rfl,h1 | h1,hl,q⟩:=h
 . exact qjW hK pins s σ H _ us Q I r ⟨a,ns,rfl,h1,hl,q⟩
 . exact qjZ hP hw hc pins s σ H _ us Q I r ⟨a,ns,rfl,h1,hl,q⟩
end
end L2
namespace L2
open PySem PySem.Spec PyProof.Rows
theorem qiA (a b:Nat):Builtin.bitAnd (a:Int) (b:Int)=((a&&&b:Nat):Int):=by
 rw [bitAnd_pp (by omega) (by omega)]
 rfl
theorem qqS (a b:Nat):Builtin.bitOr (a:Int) (b:Int)=((a|||b:Nat):Int):=by
 rw [bitOr_and,qiA]
 have h:∀n (a b:Nat),a<2^n->a+b=(a|||b)+(a&&&b):=by
   intro n
   induction n with
   | zero =>
     intro a b ha
     have:a=0:=by omega
     subst this
     simp
   | succ n ih =>
     intro a b ha
     have q:=ih (a/2) (b/2) (by rw [yak] at ha;omega)
     have e1:(a|||b)/2=a/2|||b/2:=Nat.or_div_two
     have e2:(a&&&b)/2=a/2&&&b/2:=Nat.and_div_two
     have m1:(a|||b)%2=if a%2=1\/b%2=1 then 1 else 0:=by
       have:=yan a b 0
       simp only [yal] at this
       rcases yam (a|||b) with z | z<;>rcases yam a with z1 | z1<;>rcases yam b with z2 | z2<;>simp [z,z1,z2] at this ⊢
     have m2:(a&&&b)%2=if a%2=1/\b%2=1 then 1 else 0:=by
       have:=yaa a b 0
       simp only [yal] at this
       rcases yam (a&&&b) with z | z<;>rcases yam a with z1 | z1<;>rcases yam b with z2 | z2<;>simp [z,z1,z2] at this ⊢
     rw [<-e1,<-e2] at q
     clear ih e1 e2 ha
     generalize (a|||b)=x at q m1 ⊢
     generalize (a&&&b)=y at q m2 ⊢
     split at m1<;>split at m2<;>omega
 have:=h (a+1) a b (yae (ybx a) (ybs yao))
 omega
theorem qmx (ns:List Int):(ns.map V.int).all qb2=true:=by
 rw [ybf]
 intro x hx
 obtain ⟨z,_,rfl⟩:=ybn.mp hx
 rfl
theorem qi6 (k:Nat):(2:Int)^k=((2^k:Nat):Int):=by
 rw [Int.natCast_pow]
 rfl
end L2
namespace L2
open PySem PySem.Spec PyProof.Rows
section
variable {X:Cx} {K:PySem.W.Frag}
def qt1 (K:PySem.W.Frag) (te:TE):TE:=fun σ H Q=>te σ H fun x H1=>∃a xs,x = .ref a/\SqL K H1 a xs/\∀p,H1 p=none->Q (.ref p) (upd H1 p (.lst xs.reverse))
def Itv (K:PySem.W.Frag) (a:Addr) (xs:List V):It:=⟨fun i H=>SqL K H a xs/\i<xs.length,fun i H x H'=>H'=H/\xs.reverse[i]?=some x,fun i H=>SqL K H a xs/\xs.length<=i⟩
def qt2 (K:PySem.W.Frag) (ta:TA):TI:=fun σ H R=>ta σ H fun vs H1=>∃a xs,vs=[.ref a]/\SqL K H1 a xs/\R (Itv K a xs) H1
end
section
variable {K:PySem.W.Frag} {g:TG} {tb:TS} {D:qeY} {σ:St} {H:Hp} {a:Addr} {xs:List V} {ta:TA}
theorem qo5:qoq (qt2 K ta) g tb D σ H↔ta σ H fun vs H1=>∃a xs,vs=[.ref a]/\SqL K H1 a xs/\qgB (Itv K a xs) g tb D σ H1:=Iff.rfl
end
end L2
namespace L2
open PySem PySem.Spec PyProof.Rows
abbrev nI (fs:List Nat):List Int:=fs.map fun (n:Nat)=>(n:Int)
abbrev nV (fs:List Nat):List V:=(nI fs).map V.int
theorem qeq (fs:List Nat):(nV fs).length=fs.length:=by simp
theorem qrh {fs:List Nat} {i:Nat} {x:V} (h:(nV fs)[i]?=some x):∃a,fs[i]?=some a/\x = .int (a:Nat):=by
 rw [ydf,ydf] at h
 cases e:fs[i]? with
 | none=>rw [e] at h;cases h
 | some a=>rw [e] at h;cases h;exact ⟨a,rfl,rfl⟩
theorem qss {fs:List Nat} {x:V} (h:x∈nV fs):∃a∈fs,x = .int (a:Nat):=by
 obtain ⟨z,hz,rfl⟩:=ybn.mp h
 obtain ⟨a,ha,rfl⟩:=ybn.mp hz
 exact ⟨a,ha,rfl⟩
theorem qpj (fs:List Nat) (a:Nat):nV fs++[V.int (a:Nat)]=nV (fs++[a]):=by simp
theorem qrS {a b:List Nat}:nI a=nI b↔a=b:=by
 constructor
 . intro h
   have:(nI a).map Int.toNat=(nI b).map Int.toNat:=by rw [h]
   rw [nI,nI,ydg,ydg,show (Int.toNat ∘ fun (n:Nat)=>(n:Int))=id from funext fun n=>yel n,yfd,yfd] at this
   exact this
 . rintro rfl;rfl
theorem qoy (a b:List Nat):qgf (nV a) (nV b)=decide (a=b):=by
 rw [qlN]
 exact decide_eq_decide.mpr qrS
theorem qlI (fs:List Nat):(nV fs).all qb2=true:=qmx _
theorem qlw {ms:List Int} (h:∀z∈ms,0<=z):nI (ms.map Int.toNat)=ms:=by
 rw [nI,ydg]
 conv=>rhs;rw [<-yfd ms]
 refine yfe fun z hz=>?_
 have:=h z hz
 show ((z.toNat:Nat):Int)=z
 omega
def sd (fs:List Nat):List Nat:=(List.range (fs.foldl max 0+1)).filter fun x=>decide (x∈fs)
theorem qso (fs:List Nat):∀z,z<=fs.foldl max z/\∀x∈fs,x<=fs.foldl max z:=by
 induction fs with
 | nil=>intro z;exact ⟨yax _,fun x hx=>by cases hx⟩
 | cons a fs ih =>
   intro z
   obtain ⟨h1,h2⟩:=ih (max z a)
   rw [ybk]
   refine ⟨by omega,fun x hx=>?_⟩
   rcases ybd.mp hx with rfl | hx
   . omega
   . exact h2 x hx
theorem qoO {fs:List Nat} {x:Nat}:x∈sd fs↔x∈fs:=by
 unfold sd
 rw [yay,ybh,decide_eq_true_eq]
 exact ⟨fun h=>h.2,fun h=>⟨by have:=(qso fs 0).2 x h;omega,h⟩⟩
theorem qii (fs:List Nat):(sd fs).Pairwise (· < ·):=ybg.sublist yba
theorem qr4 {fs gs:List Nat} (h:gs.Pairwise (· < ·)) (e:∀x,x∈gs↔x∈fs):gs=sd fs:=Fam.rise_ext h (qii fs) fun x=>(e x).trans qoO.symm
theorem qpw {fs:List Nat} (h:fs.Pairwise (· < ·)):sd fs=fs:=(qr4 h fun _=>Iff.rfl).symm
theorem qe3 {fs:List Nat} {ms:List Int} (h1:ms.Perm (qdS (nI fs))) (h2:ms.Pairwise (·<=·)):ms=nI (sd fs):=by
 have nn:∀z∈ms,0<=z:=fun z hz=>by
   have:=qdU.mp (h1.mem_iff.mp hz)
   obtain ⟨a,_,rfl⟩:=ybn.mp this
   omega
 have e:=qlw nn
 rw [<-e]
 congr 1
 have nd:ms.Nodup:=h1.nodup_iff.mpr (qfK _)
 refine qr4 ?_ fun x=>?_
 . rw [ybo]
   have:=ybp.mp h2
   have nd':=ybp.mp nd
   rw [ybp]
   intro i j hi hj hij
   have a1:=this i j hi hj hij
   have a2:ms[i]≠ms[j]:=nd' i j hi hj hij
   have a3:=nn ms[i] (yck _)
   omega
 . rw [ybn]
   constructor
   . rintro ⟨z,hz,rfl⟩
     have:=qdU.mp (h1.mem_iff.mp hz)
     obtain ⟨a,ha,rfl⟩:=ybn.mp this
     simpa using ha
   . intro hx
     exact ⟨x,h1.mem_iff.mpr (qdU.mpr (ybn.mpr ⟨x,hx,rfl⟩)),by simp⟩
end L2
namespace L2
open PySem PySem.Spec PyProof.Rows
section
variable {K:PySem.W.Frag} {g:TG} {σ:St} {H:Hp} {a:Addr} {xs:List V} {nt:Nat} {caps:List Nat} {tt:TT} {te:TE} {Q:VK}
theorem qkC (Pv:Nat->List V->Hp->Prop) (h0:Pv 0 [] H) (hz:xs.length<=sizeLine) (hl:∀i ys H1,i<=xs.length->Pv i ys H1->SqL K H1 a xs/\ys.length<=i)
   (hs:∀i x ys H1,xs[i]?=some x->Pv i ys H1->∀(R:VK) (R':Hp->Prop),(∀y H2,Pv (i+1) (ys++[y]) H2->R y H2)->(∀H2,Pv (i+1) ys H2->R' H2) ->
     g x (qbE nt caps σ) H1 fun σ4 H4=>tt σ4 H4 fun b H5=>if b=true then te σ4 H5 R else R' H5)
   (hd:∀ys H1,Pv xs.length ys H1->∀p,H1 p=none->Q (.ref p) (upd H1 p (.lst ys))):qdN (Itl K a) nt caps g tt te σ H Q:=by
 refine ⟨fun i m ys H1=>m=xs.length-i/\i<=xs.length/\Pv i ys H1,⟨_,rfl,ybv _,h0⟩,?_⟩
 rintro i m ys H2 ⟨rfl,hi,p⟩
 obtain ⟨q,hy⟩:=hl i ys H2 hi p
 by_cases hlt:i<xs.length
 . refine .inr ⟨⟨xs,xs[i],q,by simp [hlt]⟩,by omega,fun x H3 y=>?_⟩
   obtain ⟨e,y⟩:=y
   subst e
   exact hs i x ys _ (y xs q) p _ _ (fun v H4 w=>⟨xs.length-(i+1),by omega,rfl,hlt,w⟩) fun H4 w=>⟨xs.length-(i+1),by omega,rfl,hlt,w⟩
 . obtain rfl:i=xs.length:=by omega
   exact .inl ⟨⟨xs,q,yax _⟩,by omega,hd ys H2 p⟩
theorem qrO {lo:Int} {n:Nat} (Pv:Nat->List V->Hp->Prop) (h0:Pv 0 [] H) (hz:n<=sizeLine) (hl:∀i ys H1,i<=n->Pv i ys H1->ys.length<=i)
   (hs:∀i ys H1,i<n->Pv i ys H1->∀(R:VK) (R':Hp->Prop),(∀y H2,Pv (i+1) (ys++[y]) H2->R y H2)->(∀H2,Pv (i+1) ys H2->R' H2) ->
     g (.int (lo+i)) (qbE nt caps σ) H1 fun σ4 H4=>tt σ4 H4 fun b H5=>if b=true then te σ4 H5 R else R' H5)
   (hd:∀ys H1,Pv n ys H1->∀p,H1 p=none->Q (.ref p) (upd H1 p (.lst ys))):qdN (Itr lo n) nt caps g tt te σ H Q:=by
 refine ⟨fun i m ys H1=>m=n-i/\i<=n/\Pv i ys H1,⟨_,rfl,ybv _,h0⟩,?_⟩
 rintro i m ys H2 ⟨rfl,hi,p⟩
 have hy:=hl i ys H2 hi p
 by_cases hlt:i<n
 . refine .inr ⟨hlt,by omega,fun x H3 y=>?_⟩
   obtain ⟨e,y⟩:=y
   subst e y
   exact hs i ys _ hlt p _ _ (fun v H4 w=>⟨n-(i+1),by omega,rfl,hlt,w⟩) fun H4 w=>⟨n-(i+1),by omega,rfl,hlt,w⟩
 . obtain rfl:i=n:=by omega
   exact .inl ⟨yax _,by omega,hd ys H2 p⟩
theorem qe8 {n:Nat} (c:Nat->Bool) (f:Nat->V) (hz:n<=100000)
   (hs:∀k,k<n->∀H1,qas H H1->∀(R:VK) (R':Hp->Prop),(c k=true->∀H2,qas H1 H2->R (f k) H2)->(c k=false->∀H2,qas H1 H2->R' H2) ->
     g (.int (k:Nat)) (qbE nt caps σ) H1 fun σ4 H4=>tt σ4 H4 fun b H5=>if b=true then te σ4 H5 R else R' H5)
   (hd:∀H1 p,qas H H1->H1 p=none->Q (.ref p) (upd H1 p (.lst (((List.range n).filter c).map f)))):qdN (Itr 0 n) nt caps g tt te σ H Q:=by
 refine qrO (fun i ys H1=>qas H H1/\ys=((List.range i).filter c).map f) ⟨qas.refl _,rfl⟩ (ybt hz (by decide)) (fun i ys H1 _ h=>?_) (fun i ys H1 hi h R R' r1 r2=>?_) fun ys H1 h p hp=>?_
 . rw [h.2,ycj]
   exact ybt (yff _ _) (by simp)
 . obtain ⟨sm,rfl⟩:=h
   rw [Int.zero_add]
   refine hs i hi H1 sm R R' (fun hc H2 s2=>r1 _ _ ⟨sm.trans s2,?_⟩) fun hc H2 s2=>r2 _ ⟨sm.trans s2,?_⟩
   . rw [yco,yau,ycl];simp [hc]
   . rw [yco,yau,ycl];simp [hc]
 . rw [h.2]
   exact hd H1 p h.1 hp
theorem qod {fs:List V} (c:V->Bool) (f:V->V) (hq:SqL K H a fs) (hz:fs.length<=100000)
   (hs:∀x∈fs,∀H1,qas H H1->∀(R:VK) (R':Hp->Prop),(c x=true->∀H2,qas H1 H2->R (f x) H2)->(c x=false->∀H2,qas H1 H2->R' H2) ->
     g x (qbE nt caps σ) H1 fun σ4 H4=>tt σ4 H4 fun b H5=>if b=true then te σ4 H5 R else R' H5)
   (hd:∀H1 p,qas H H1->H1 p=none->Q (.ref p) (upd H1 p (.lst ((fs.filter c).map f)))):qdN (Itl K a) nt caps g tt te σ H Q:=by
 refine qkC (xs:=fs) (fun i ys H1=>qas H H1/\ys=((fs.take i).filter c).map f) ⟨qas.refl _,rfl⟩ (ybt hz (by decide)) (fun i ys H1 hi h=>⟨h.1.seq hq,?_⟩) (fun i x ys H1 hx h R R' r1 r2=>?_) fun ys H1 h p hp=>?_
 . rw [h.2,ycj]
   exact ybt (yff _ _) (by rw [yee];omega)
 . obtain ⟨sm,rfl⟩:=h
   have ex:=take_succ_filter c fs i x hx
   refine hs x (ydk hx) H1 sm R R' (fun hc H2 s2=>r1 _ _ ⟨sm.trans s2,?_⟩) fun hc H2 s2=>r2 _ ⟨sm.trans s2,?_⟩
   . rw [ex,hc,if_pos rfl,ycl];rfl
   . rw [ex,hc,if_neg ydu,yda]
 . rw [h.2,ycb]
   exact hd H1 p h.1 hp
theorem qlY {fs:List Nat} (c:Nat->Bool) (f:Nat->V) (hq:SqL K H a (nV fs)) (hz:fs.length<=100000)
   (hs:∀x∈fs,∀H1,qas H H1->∀(R:VK) (R':Hp->Prop),(c x=true->∀H2,qas H1 H2->R (f x) H2)->(c x=false->∀H2,qas H1 H2->R' H2) ->
     g (.int (x:Nat)) (qbE nt caps σ) H1 fun σ4 H4=>tt σ4 H4 fun b H5=>if b=true then te σ4 H5 R else R' H5)
   (hd:∀H1 p,qas H H1->H1 p=none->Q (.ref p) (upd H1 p (.lst ((fs.filter c).map f)))):qdN (Itl K a) nt caps g tt te σ H Q:=by
 refine qod (fs:=nV fs) (fun v=>match v with | .int i=>c i.toNat | _=>false) (fun v=>match v with | .int i=>f i.toNat | _ => .non) hq (by rw [qeq];exact hz) (fun x hx H1 sm R R' r1 r2=>?_) fun H1 p sm hp=>?_
 . obtain ⟨b,hb,rfl⟩:=qss hx
   refine hs b hb H1 sm R R' (fun hc=>?_) fun hc=>?_
   . have:=r1 (by simpa using hc)
     simpa using this
   . exact r2 (by simpa using hc)
 . have e:((nV fs).filter (fun v=>match v with | .int i=>c i.toNat | _=>false)).map (fun v=>match v with | .int i=>f i.toNat | _ => .non)=(fs.filter c).map f:=by
     rw [nV,nI,ydg,List.filter_map,ydg]
     rfl
   rw [e]
   exact hd H1 p sm hp
end
theorem qaH {n:Nat} (h:n<=100000):n<=sizeLine:=ybt h (by decide)
theorem qiX {n:Nat} (h:n<=100000):n<sizeLine:=ybi h (by decide)
theorem qlW {P A B:Prop} [Decidable P] {b:Bool} (e:P↔b=true) (h1:b=true->A) (h2:b=false->B):if P then A else B:=by
 by_cases c:P
 . rw [if_pos c];exact h1 (e.mp c)
 . rw [if_neg c];exact h2 (by cases b with | false=>rfl | true=>exact absurd (e.mpr rfl) c)
theorem qaJ {H H':Hp} {p:Addr} {o:HO} (e:upd H p o=H'):H' p=some o:=e▸qai
theorem qav {H H':Hp} {p:Addr} {o:HO} (e:upd H p o=H') (h:H p=none):qas H H':=e▸qas.new h
theorem qaQ {H H':Hp} {p:Addr} (s:qas H H') (h:H' p=none):H p=none:=by
 cases e:H p with
 | none=>rfl
 | some o=>rw [s _ _ e] at h;cases h
theorem qi5 (n:Nat) (c:Nat->Bool):((List.range n).filter c).map (fun k=>V.int (k:Nat))=nV ((List.range n).filter c):=by simp
end L2
namespace L2
open PySem PySem.Spec PyProof.Rows
theorem qnI (xs:List V) (n:Nat):qkh xs none (some (n:Int))=xs.take n:=by
 unfold qkh
 rw [HT.sIx_nat]
 show (xs.drop 0).take (min n xs.length-0)=_
 rw [List.drop_zero,Nat.sub_zero,List.take_eq_take_iff]
 omega
theorem qjx (xs:List V) (n:Nat):qkh xs (some (n:Int)) none=xs.drop n:=by
 unfold qkh
 rw [HT.sIx_nat]
 show (xs.drop (min n xs.length)).take (xs.length-min n xs.length)=_
 rcases yag n xs.length with z | z
 . rw [Nat.min_eq_left (ybs z),<-ybz,ycb]
 . rw [Nat.min_eq_right z,yfg z,yfg (yax _)]
   simp
end L2
namespace L2
open PySem PySem.Spec PyProof.Rows
section
variable {K:PySem.W.Frag} {g:TG} {tb:TS} {D:qeY} {σ:St} {H:Hp} {a:Addr} {xs:List V} {c:TT}
theorem qk8 {n:Nat} (Pv:Nat->St->Hp->Prop) (h0:Pv 0 σ H)
   (hs:∀i σ H,i<n->Pv i σ H->∀N:St->Hp->Prop,(∀σ' H',Pv (i+1) σ' H'->N σ' H')->g (.int (i:Nat)) σ H fun σ2 H2=>tb { D with nx:=N,ct:=N,bk:=D.nx } σ2 H2) (hd:∀σ H,Pv n σ H->D.nx σ H):qgB (Itr 0 n) g tb D σ H :=
 qs8 Pv h0 (fun i σ H hi p=>by rw [Int.zero_add];exact hs i σ H hi p _ fun _ _ q=>q) hd
theorem qhl (Pv:Nat->St->Hp->Prop) (h0:Pv 0 σ H) (hl:∀i σ H,i<=xs.length->Pv i σ H->SqL K H a xs)
   (hs:∀i x σ H,xs[i]?=some x->Pv i σ H->∀N:St->Hp->Prop,(∀σ' H',Pv (i+1) σ' H'->N σ' H')->g x σ H fun σ2 H2=>tb { D with nx:=N,ct:=N,bk:=D.nx } σ2 H2) (hd:∀σ H,Pv xs.length σ H->D.nx σ H):qgB (Itl K a) g tb D σ H :=
 qq3 Pv h0 hl (fun i x σ H hx p=>hs i x σ H hx p _ fun _ _ q=>q) hd
theorem qri (W:Nat->St->Hp->Prop) (m0:Nat) (h0:W m0 σ H)
   (hs:∀m σ H,W m σ H->∀(T:Hp->Prop),(∀H1,((∀N:St->Hp->Prop,(∀m' σ' H',m'<m->W m' σ' H'->N σ' H')->tb { D with nx:=N,ct:=N,bk:=D.nx } σ H1)->T H1))->c σ H fun b H1=>if b=true then T H1 else D.nx σ H1):qjc c tb D σ H:=by
 refine ⟨W,⟨m0,h0⟩,fun m σ H w=>?_⟩
 exact hs m σ H w (fun H1=>∃N:St->Hp->Prop,(∀σ' H',N σ' H'->∃m',m'<m/\W m' σ' H')/\tb { D with nx:=N,ct:=N,bk:=D.nx } σ H1) fun H1 h=>⟨fun σ' H'=>∃m',m'<m/\W m' σ' H',fun _ _ z=>z,h _ fun m' σ' H' l w'=>⟨m',l,w'⟩⟩
end
end L2
namespace L2
open PySem PySem.Spec PyProof.Rows
theorem qoX (a k:Nat):Builtin.bitAnd ((a:Int)/2^((k:Nat):Int).toNat) 1=if a.testBit k=true then 1 else 0:=by
 have e:(a:Int)/2^((k:Nat):Int).toNat=((a/2^k:Nat):Int):=by rw [yel,qi6];rfl
 rw [e,show (1:Int)=((1:Nat):Int) from rfl,qiA,Nat.and_one_is_mod,Nat.testBit_eq_decide_div_mod_eq]
 by_cases c:a/2^k%2=1
 . simp [c]
 . have:a/2^k%2=0:=by omega
   simp [this]
theorem qqe (a k:Nat):decide (Builtin.bitAnd ((a:Int)/2^((k:Nat):Int).toNat) 1=1)=a.testBit k:=by
 rw [qoX]
 cases a.testBit k<;>rfl
theorem qiu {a k:Nat}:Builtin.bitAnd ((a:Int)/2^((k:Nat):Int).toNat) 1=1↔a.testBit k=true:=by
 rw [<-qqe,decide_eq_true_eq]
theorem qla (k:Nat):(1:Int)*2^((k:Nat):Int).toNat=((2^k:Nat):Int):=by rw [Int.one_mul,yel,qi6]
end L2
namespace L2
open PySem PySem.Spec PyProof.Rows
inductive Deq (K:PySem.W.Frag) (H:Hp):Nat->V->V->Bool->Prop where
 | flat {n:Nat} {x y:V}:qb2 x=true->qb2 y=true->Deq K H n x y (eqV x y)
 | lst {n:Nat} {a b:Addr} {xs ys:List V} {e:Nat->Bool}:a≠b->SqL K H a xs->SqL K H b ys->xs.length=ys.length->(∀(j:Nat) (x y:V),xs[j]?=some x->ys[j]?=some y->Deq K H n x y (e j))->Deq K H (n+1) (.ref a) (.ref b) ((List.range xs.length).all e)
 | lstN {n:Nat} {a b:Addr} {xs ys:List V}:a≠b->SqL K H a xs->SqL K H b ys->xs.length≠ys.length->Deq K H (n+1) (.ref a) (.ref b) false
 | tup {n:Nat} {a b:Addr} {xs ys:List V} {e:Nat->Bool}:a≠b->SqT K H a xs->SqT K H b ys->(∀(j:Nat) (x y:V),xs[j]?=some x->ys[j]?=some y->Deq K H n x y (e j))->Deq K H (n+1) (.ref a) (.ref b) ((List.range (min xs.length ys.length)).all e&&xs.length==ys.length)
section
variable {X:Cx} {pins:List (Addr×Obj)} {σ:St} {H:Hp} {s:Shared} {K:PySem.W.Frag}
end
end L2
namespace L2
open PySem PySem.Spec PyProof.Rows
end L2
namespace Fam
end Fam
namespace Fam
end Fam
namespace Fam
def qtv (f:Nat->Bool) (x y s:Nat):Bool:=!s.testBit x&&!s.testBit y&&(f (s|||2^x)&&!f (s|||2^y))
def quk (m:Nat) (f:Nat->Bool) (x y:Nat):Option Nat:=(List.range (2^m)).find? (qtv f x y)
end Fam
namespace Fam
structure Ord (m:Nat) (o:List Nat):Prop where
 len:o.length=m
 lt:∀x∈o,x<m
 nd:o.Nodup
def at' (o:List Nat) (k:Nat):Nat:=o.getD k 0
def ex (o:List Nat) (a:Nat):Nat:=ofN ((nms 8 a).map (at' o))
section
variable {m:Nat} {o:List Nat}
def qqF (o:List Nat):List Nat:=(List.range o.length).map fun j=>o.idxOf j
end
end Fam
namespace L2
open PySem PySem.Spec PyProof.Rows
section
variable {X:Cx} {es:List Expr} {t:TA} {te:TE}
theorem qae {v j p} (ha:PE X (.Constant v j p) te) (hr:PA X es t):PA X (.Constant v j p::es) (qdo te t):=qaa ha hr
theorem qaB {x p} (ha:PE X (.Name x p) te) (hr:PA X es t):PA X (.Name x p::es) (qdo te t):=qaa ha hr
theorem qjh {xs b p} (ha:PE X (.Tuple xs b p) te) (hr:PA X es t):PA X (.Tuple xs b p::es) (qdo te t):=qaa ha hr
theorem qjB {xs p} (ha:PE X (.List xs p) te) (hr:PA X es t):PA X (.List xs p::es) (qdo te t):=qaa ha hr
theorem qjt {ks vs p} (ha:PE X (.Dict ks vs p) te) (hr:PA X es t):PA X (.Dict ks vs p::es) (qdo te t):=qaa ha hr
theorem qdP {f as ks p} (ha:PE X (.Call f as ks p) te) (hr:PA X es t):PA X (.Call f as ks p::es) (qdo te t):=qaa ha hr
inductive CI:List Expr->List Int->Prop
 | nil:CI [] []
 | cons {i:Int} {j:Nat} {p:Pos} {es:List Expr} {ns:List Int} (h:CI es ns):CI (.Constant (.int i) j p::es) (i::ns)
def qsS (ns:List Int):TA:=fun _ H Q=>Q (ns.map V.int) H
end
end L2
namespace L2
open PySem PySem.Spec PyProof.Rows
section
variable {X:Cx} {K:PySem.W.Frag}
theorem qsq {T:String} {name:Str} {id:String} {r:V->List V->Hp->VK->Prop} {o e:Expr} {es:List Expr} {to:TE} {t:TA} {apos cpos:Pos} (hK:X.K=K) (pa:PlainAttrs T) (slot:Slot T name id) (hty:typeOf (.builtin id)=pure (.type "method_descriptor")) (hm:MtR X id r) (ho:PE X o to) (ha:PA X (e::es) t) (h1:attributeBase o name X.env (eval o X.env)=eval o X.env:=by rfl) (h2:((backTo cpos (starEach (e::es) X.env)).all (fun x=>!x.1)&&(backToKw cpos (keywordEach [] X.env)).all (fun x=>x.1.isSome)&&decide ((e::es).length+([]:List Keyword).length+(if ([]:List Keyword).isEmpty then 0 else 1)<30))=true:=by rfl) (h3:(apos.endLine==cpos.line)=true:=by rfl) (h4:starEach (e::es) X.env=(false,eval e X.env)::starEach es X.env:=by rfl) (h5:(backTo cpos (starEach es X.env)).any (·.1)=false:=by rfl):PE X (.Call (.Attribute o name apos) (e::es) [] cpos) (tBM K T r to t):=by
 subst hK
 exact qb3 pa slot hty hm ho ha h1 h2 h3 h4 h5
end
end L2
namespace L2
open PySem PySem.Spec PyProof.Rows
inductive DI:List Expr->TA->Prop
 | nil:DI [] qqY
 | c {v:Const} {j:Nat} {p:Pos} {es:List Expr} {te:TE} {t:TA} (h:∀X,PE X (.Constant v j p) te) (r:DI es t):DI (.Constant v j p::es) (qdo te t)
 | t {xs:List Expr} {b p} {es:List Expr} {te:TE} {t:TA} (h:∀X,PE X (.Tuple xs b p) te) (r:DI es t):DI (.Tuple xs b p::es) (qdo te t)
 | d {ks vs p} {es:List Expr} {te:TE} {t:TA} (h:∀X,PE X (.Dict ks vs p) te) (r:DI es t):DI (.Dict ks vs p::es) (qdo te t)
 | l {xs:List Expr} {p} {es:List Expr} {te:TE} {t:TA} (h:∀X,PE X (.List xs p) te) (r:DI es t):DI (.List xs p::es) (qdo te t)
end L2
namespace L2
open PySem PySem.Spec PyProof.Rows STb
section
variable {prog:Program} {w:World} {A:Around} {E:Value->Shared->Prop} {s:Shared}
end
section
variable {X:Cx}
end
end L2
namespace L2
open PySem PySem.Spec PyProof.Rows
section
variable {X:Cx} {K:PySem.W.Frag} {g:TG} {σ:St} {H:Hp} {a:Addr} {xs:List V} {nt:Nat} {caps:List Nat} {tt:TT} {te tl:TE} {Q:VK}
theorem qpn:qfO nt caps (qtW K tl) g tt te σ H Q↔tl σ H fun x H1=>∃a,x = .ref a/\(∃xs,SqT K H1 a xs)/\qdN (Itt K a) nt caps g tt te σ H1 Q:=Iff.rfl
end
end L2
namespace L2
open PySem PySem.Spec PyProof.Rows
section
variable {X:Cx} {pins:List (Addr×Obj)} {σ:St} {H:Hp} {s:Shared} {h':Heap} {K:PySem.W.Frag}
def Ite (K:PySem.W.Frag) (a:Addr):It :=
 ⟨fun i H=>∃xs x,SqL K H a xs/\xs[i]?=some x,fun i H v H'=>∃t,v = .ref t/\H t=none/\∀xs x,SqL K H a xs->xs[i]?=some x->H'=upd H t (.tup [.int (i:Nat),x]),fun i H=>∃xs,SqL K H a xs/\xs.length<=i⟩
def qtk (K:PySem.W.Frag) (ta:TA):TI:=fun σ H R=>ta σ H fun vs H1=>∃a xs,vs=[.ref a]/\SqL K H1 a xs/\R (Ite K a) H1
theorem qsp {K:PySem.W.Frag}:qiv 2 (qtr K 2 (qn5 (qey 0) (qn5 (qey 1) qs1))):=by
 intro v cs H Q h
 obtain ⟨a,xs,e,hq,hl,v0,r0,e0,v1,r1,e1,e2,q⟩:=h
 refine ⟨a,xs,e,hq,hl,v0,r0,e0,v1,r1,e1,e2,fun j u z=>?_,q⟩
 match j with
 | 0=>simp at z
 | 1=>simp at z
 | j+2=>simpa using z
end
section
variable {K:PySem.W.Frag} {g:TG} {σ:St} {H:Hp} {a:Addr} {nt:Nat} {caps:List Nat} {tt:TT} {te:TE} {Q:VK} {ta:TA}
theorem qpi:qfO nt caps (qtk K ta) g tt te σ H Q↔ta σ H fun vs H1=>∃a xs,vs=[.ref a]/\SqL K H1 a xs/\qdN (Ite K a) nt caps g tt te σ H1 Q:=Iff.rfl
end
section
variable {g:TG} {tb:TS} {D:qeY} {σ:St} {H:Hp}
end
end L2
namespace L2
open PySem PySem.Spec PyProof.Rows
end L2
namespace L2
open PySem PySem.Spec PyProof.Rows
structure qtw (X:Cx) (N:List Str) (nt:Nat) (caps:List Nat) (cx:Str) (scope:Scope):Prop where
 one:∀n acc,cellsFrom n scope.names acc=(cx,n)::acc
 push:∀h:Heap,pushCells h scope.names=h.push { cls := .type "cell",data := .cell none }
 cell:∀y∈scope.names,y.2 = .cell->y.1=cx
 notf:(cx,NameKind.free)∉scope.names
 kind:scope.kind = .function
 names:∀x∈scope.names,x.2 = .local->scope.names.lookup x.1=some .local
 free:∀n,(n,NameKind.free)∈scope.names->X.env.kindOf n=some .cell\/X.env.kindOf n=some .free
 cap:∀(j i:Nat),caps[j]?=some i->∃x,X.N[i]?=some x/\N[nt+j]?=some x/\(x,NameKind.free)∈scope.names/\scope.names.lookup x=some .free
 len:N.length=nt+caps.length
section
variable {X:Cx} {tg iter elt:Expr} {ifs:List Expr} {scope:Scope} {pos:Pos} {N:List Str} {nt:Nat} {caps:List Nat} {wi:TI} {g:TG} {tt:TT} {te:TE} {cl:List (Str×Addr)} {cx:Str}
end
end L2
namespace Fam
section
variable {m:Nat} {o:List Nat} {f g:Nat->Bool}
end
end Fam
namespace L2
open PySem PySem.Spec PyProof.Rows
section
variable {m:Nat} {o cs cs':List Nat}
end
end L2
namespace Fam
end Fam
namespace Fam
end Fam
namespace L2
open PySem PySem.Spec PyProof.Rows
section
variable {X:Cx}
theorem qko:qcM X (.builtin "len") (fun xs H Q=>∃p kvs,xs=[.ref p]/\H p=some (.dK kvs)/\Q (.int kvs.length) H):=by
 intro pins s σ H xs us Q I r h
 obtain ⟨p,kvs,rfl,hH,q⟩:=h
 obtain ⟨u,rfl,ru⟩:=qfH r
 cases ru
 obtain ⟨z,y,vs,kv,d⟩:=I.hok p _ hH
 have hl:kvs.length=vs.length:=Paired.length kv
 have zz:sizeLine<2^63:=by decide
 refine call_len_dict y d (by omega) ⟨.int _,H,I.tok _,⟨_,by rw [hl]⟩,q⟩
end
end L2
namespace L2
open PySem PySem.Spec PyProof.Rows
abbrev sV (ys:List Str):List V:=ys.map V.str
theorem qh7:∀{ys:List Str} {us:List Value},qa6 (sV ys) us->StrsAre us ys
 | [],_,.nil => .nil
 | y::ys,_,.cons r t=>by
   obtain ⟨k,rfl⟩:=(show ∃k,_=Value.str y (k+1) from r)
   exact .cons y _ (qh7 t)
theorem qge:∀{ys:List Str} {us:List Value},qa6 (sV ys) us->∃l:List (Str×Tok),us=strValues l/\l.map (·.1)=ys/\∀p∈l,1<=p.2
 | [],_,.nil=>⟨[],rfl,rfl,fun _ z=>nomatch z⟩
 | y::ys,_,.cons r t=>by
   obtain ⟨k,rfl⟩:=(show ∃k,_=Value.str y (k+1) from r)
   obtain ⟨l,rfl,e,h⟩:=qge t
   exact ⟨(y,k+1)::l,rfl,by rw [<-e];rfl,fun p hp=>by rcases ybd.mp hp with rfl | hp;exact ydo 1 _;exact h p hp⟩
theorem qfw:∀(l:List (Str×Tok)),(∀p∈l,1<=p.2)->qa6 (sV (l.map (·.1))) (strValues l)
 | [],_ => .nil
 | (y,t)::l,h => .cons ⟨t-1,congrArg (Value.str y) (ydq (h _ ybb)).symm⟩ (qfw l fun p hp=>h p (ybe _ hp))
theorem qlm {x:Str} {t:Tok} (h:1<=t):qbo (.str x) (.str x t):=⟨t-1,congrArg (Value.str x) (ydq h).symm⟩
theorem qj1 {s:Shared} {sep:Str} {Q:Value->Shared->Prop} (h1:1<=s.toks):∀(l:List (Str×Tok)),(∀p∈l,1<=p.2)->((Txt.join sep (l.map (·.1))).length<=sizeLine/\∀t' k,1<=t'->1<=k->Q (.str (Txt.join sep (l.map (·.1))) t') { s with toks:=k })->(joinMade sep l).post Q s
 | [],_,h=>⟨h.1,h.2 _ _ h1 (ydo 1 _)⟩
 | [p],hp,h=>h.2 p.2 s.toks (hp p ybb) h1
 | _::_::_,_,h=>⟨h.1,h.2 _ _ h1 (ydo 1 _)⟩
section
variable {X:Cx}
def qth (K:PySem.W.Frag):V->List V->Hp->VK->Prop:=fun x vs H Q=>∃(sep:Str) (l:Addr) (ys:List Str),x = .str sep/\vs=[.ref l]/\SqL K H l (sV ys)/\(ys.map (·.length)).sum+ys.length*sep.length<=16777216/\Q (.str (Txt.join sep ys)) H
theorem qcD {K:PySem.W.Frag} (hK:X.K=K):MtM X "str.join" (qth K):=by
 subst hK
 intro pins s σ H x vs v us Q I rx rv h
 obtain ⟨sep,l,ys,rfl,rfl,hq,hz,q⟩:=h
 obtain ⟨t,rfl⟩:=rx
 obtain ⟨u,rfl,ru⟩:=rv.one
 cases (show u=Value.ref l from ru)
 obtain ⟨its,r,p,_⟩:=I.list hq
 obtain ⟨ll,rfl,e,hp⟩:=qge r
 subst e
 have hok:=joinOk_of hz
 unfold JoinOk at hok
 rw [yaw] at hok
 exact call_meets F.slot_str_join (typeIs_str _ _ _) F.entry_str_join (F.args_str_join_2 _ _) (meets_str_join_list sep _ l ll hok) ⟨p.isList,qj1 I.tk ll hp ⟨joinFit_length hok,fun t' k h1 h2=>⟨.str _,H,I.tok k h2,qlm h1,q⟩⟩⟩
theorem qmi {s:Shared} {c:Prop} [Decidable c] {y z:Str} {t:Tok} {Q:Value->Shared->Prop} (h1:1<=s.toks) (ht:1<=t) (h:(if c then y else z).length<=sizeLine/\∀t' k,1<=t'->1<=k->Q (.str (if c then y else z) t') { s with toks:=k }) :
   (if c then Made.val (.str y t) else Made.str z).post Q s:=by
 by_cases hc:c
 . rw [if_pos hc];have h':=h.2 t s.toks ht h1;rw [if_pos hc] at h';exact h'
 . rw [if_neg hc];have h':=h.2 s.toks (s.toks+1) h1 (ydo 1 _);have h1:=h.1;rw [if_neg hc] at h' h1;exact ⟨h1,h'⟩
theorem qiR {n:Nat} (h:1<=n):∀l:List Str,∀p∈numbered n l,1<=p.2
 | [],_,z=>nomatch z
 | x::r,p,z=>by
   rcases ybd.mp z with rfl | z
   . exact h
   . exact qiR (yfh h) r p z
def qqT:V->List V->Hp->VK->Prop:=fun x vs H Q=>∃(z y:Str),x = .str z/\vs=[.str y]/\(y.length==0)=false/\z.length<=100000/\∀l,H l=none->Q (.ref l) (upd H l (.lst (sV (Txt.split z y))))
theorem qgu:MtM X "str.split" qqT:=by
 intro pins s σ H x vs v us Q I rx rv h
 obtain ⟨z,y,rfl,rfl,hy,hz,q⟩:=h
 obtain ⟨t,rfl⟩:=rx
 obtain ⟨u,rfl,ru⟩:=rv.one
 obtain ⟨t2,rfl⟩:=ru
 have hl:=split_le z y
 have e24:sizeLine=16777216:=sizeLine_eq
 have fin:∀(l:List (Str×Tok)) (k:Nat),l.map (·.1)=Txt.split z y->(∀p∈l,1<=p.2)->1<=k->EP X pins σ Q (.ref s.heap.objs.size) { s with heap:=s.heap.push { cls := .type "list",data := .seq (strValues l).toArray },toks:=k }:=fun l k e hp hk =>
   ⟨.ref s.heap.objs.size,_,I.lnew (ys:=sV (Txt.split z y)) (ht:=hk) (t':=k) (by rw [<-e];exact qfw l hp) (by rw [ycj];omega),rfl,q _ I.fresh⟩
 have hz1:∀p∈[(z,t+1)],1<=p.2:=fun p hp=>by rw [ydi.mp hp];exact ydo 1 _
 cases h1:(decide (z.length<y.length)||decide (Builtin.Str.strKind z<Builtin.Str.strKind y)) with
 | true=>exact call_meets F.slot_str_split (typeIs_str _ _ _) F.entry_str_split (F.args_str_split_2 _ _) (meets_str_split_cannot_occur z y _ _ h1) (fin [(z,_)] s.toks (if_pos h1).symm hz1 I.tk)
 | false =>
   cases h2:(Builtin.Str.occurrences z y 0 z.length (z.length+1)).isEmpty with
   | true=>exact call_meets F.slot_str_split (typeIs_str _ _ _) F.entry_str_split (F.args_str_split_2 _ _) (meets_str_split_not_found z y _ _ h1 hy h2) (fin [(z,_)] s.toks ((if_neg (ne_true_of_eq_false h1)).trans (if_pos h2)).symm hz1 I.tk)
   | false =>
     have es:Txt.split z y=Builtin.Str.partsBetween z (Builtin.Str.occurrences z y 0 z.length (z.length+1)) y.length:=(if_neg (ne_true_of_eq_false h1)).trans (if_neg (ne_true_of_eq_false h2))
     refine call_meets F.slot_str_split (typeIs_str _ _ _) F.entry_str_split (F.args_str_split_2 _ _) (meets_str_split_sep z y _ _ h1 hy h2 (by omega) (by rw [<-es];omega)) ?_
     rw [strsFrom_eq]
     exact fin (numbered s.toks _) _ ((numbered_texts _ _).trans es.symm) (qiR I.tk _) (ybt I.tk (ycf _ _))
def qtX:V->Option Int->Option Int->Hp->VK->Prop:=fun x lo hi H Q=>∃z:Str,x = .str z/\z.length<=100000/\Q (.str (Txt.slice z lo hi)) H
theorem qjb {v:Value} {o:Option Int} (h:IsPart v o):∃p:Option (Int×Tok),v=partValue p/\p.map (·.1)=o:=by
 cases h with
 | none=>exact ⟨none,rfl,rfl⟩
 | int=>exact ⟨some (_,_),rfl,rfl⟩
theorem qoj:SlR X qtX:=by
 intro pins s σ H x v vl vu lo hi sl Q I rx hs pl pu h
 obtain ⟨z,rfl,hz,q⟩:=h
 obtain ⟨t,rfl⟩:=rx
 obtain ⟨a,rfl,rfl⟩:=qjb pl
 obtain ⟨b,rfl,rfl⟩:=qjb pu
 have e24:sizeLine=16777216:=sizeLine_eq
 refine ⟨"str",_,F.slot_str_getitem.lookup,typeIs_str _ _ _,wpAny_getItem_str_slice (l:=a) (u:=b) (st:=none) hs rfl (qmi I.tk (ydo 1 _) ⟨ybt (Txt.slice_le z _ _) (by omega),fun t' k h1 h2=>?_⟩)⟩
 exact ⟨.str _,H,I.tok k h2,qlm h1,q⟩
theorem qhj:OpR X (compareOp .LtE) (fun x y H Q=>∃i j,x = .str i/\y = .str j/\Q (.bl (!decide (j.cps.toList<i.cps.toList))) H):=by
 intro pins s σ H x y v u Q I rx ry h
 obtain ⟨i,j,rfl,rfl,q⟩:=h
 obtain ⟨t,rfl⟩:=rx
 obtain ⟨t',rfl⟩:=ry
 exact P.le_str (qaN I q rfl)
def qqu:V->List V->Hp->VK->Prop:=fun x vs H Q=>∃(l:Addr) (ys:List Str) (k:Str),x = .ref l/\vs=[.str k]/\H l=some (.lst (sV ys))/\k∈ys/\ys.length<=1000/\Q (.int (ys.idxOf k:Nat)) H
theorem qd1 (k:Str):∀{vs:List Value} {ys:List Str},StrsAre vs ys->∀(i:Nat) (h1:i<vs.length) (h2:i<ys.length),isStrOf k vs[i]=(ys[i]==k)
 | _,_,.nil,i,h1,_=>absurd h1 (Nat.not_lt_zero i)
 | _,_,.cons y t r,0,_,_=>rfl
 | _,_,.cons y t r,i+1,h1,h2=>qd1 k r i (ycy h1) (ycy h2)
theorem StrsAre.len:∀{vs:List Value} {ys:List Str},StrsAre vs ys->vs.length=ys.length
 | _,_,.nil=>rfl
 | _,_,.cons y t r=>congrArg (· + 1) (StrsAre.len r)
theorem qjq:∀{ys:List Str} {k:Str} {j:Nat},j<ys.idxOf k->∀h:j<ys.length,(ys[j]==k)=false
 | [],_,j,_,h=>absurd h (Nat.not_lt_zero j)
 | y::ys,k,j,w,h=>by
   rw [List.idxOf_cons] at w
   cases c:y==k with
   | true=>rw [c] at w;exact absurd w (by simp)
   | false =>
     rw [c] at w
     cases j with
     | zero=>exact c
     | succ j =>
       have w:j+1<ys.idxOf k+1:=w
       exact qjq (ys:=ys) (by omega) (ycy h)
theorem qlT:MtM X "list.index" qqu:=by
 intro pins s σ H x vs v us Q I rx rv h
 obtain ⟨l,ys,k,rfl,rfl,hH,hk,hb,q⟩:=h
 cases rx
 obtain ⟨u,rfl,ru⟩:=rv.one
 obtain ⟨t,rfl⟩:=ru
 obtain ⟨z,its,n,r,hl,e⟩:=I.lstM hH
 have hi:=qh7 r
 have hlen:=StrsAre.len hi
 have hj:ys.idxOf k<ys.length:=List.idxOf_lt_length_iff.mpr hk
 refine call_meets yfi ⟨_,e,rfl⟩ PySem.F.entry_list_index (PySem.F.args_list_index_2 _ _) (SeqAt.list_indexAt l its.toArray n none #[] (.str k _) (isStrOf k) (ys.idxOf k) (by rw [yen];omega) (by omega) ?_ fun j w1 w2=>?_) ⟨e,fun y hy=>(eq_isStrOf k _ hi y (by simpa using hy)).at _ _,?_⟩
 . exact (qd1 k hi _ (by omega) hj).trans (by simp)
 . refine (qd1 k hi j (by simpa using w1) (by omega)).trans ?_
   exact qjq w2 _
 . exact ⟨.int _,H,I.tok _,⟨_,rfl⟩,q⟩
end
end L2
namespace L2
open PySem PySem.Spec PyProof.Rows
def Its (z:Str):It:=⟨fun i _=>i<z.length,fun i H x H'=>H'=H/\∃c,z.cps[i]?=some c/\x = .str ⟨#[c]⟩,fun i _=>z.length<=i⟩
theorem qmX {P:Program} {w:World} {K:PySem.W.Frag} {tg:Expr} (z:Str) (t:Tok) (it:Addr):qqx P w K tg (Its z) [it] it (fun i h=>h.IsStrIter it "str_ascii_iterator" z t i) where
 mem:=by simp
 obj:=fun i h J b hb=>by
   obtain rfl:b=it:=by simpa using hb
   obtain ⟨oi,e1,_,e3⟩:=J
   exact ⟨oi,e1,fun v z=>by rw [e3] at z;cases z⟩
 keep:=fun i h h' J k=>by
   obtain ⟨oi,e1,r⟩:=J
   exact ⟨oi,k it (by simp) oi e1,r⟩
 item:=by
   intro X hP hw hK hc i pins s σ H E I hf J hg
   subst hP hw hK
   have hi:i<z.cps.size:=hg
   have hx:z.cps[i]?=some z.cps[i]:=Array.getElem?_eq_getElem hi
   obtain ⟨f0,f1,f2,f3,f4,f5⟩:=hf it (by simp)
   refine wpAny_pyNext_ascii_item J hx fun h' J' sb=>?_
   have I1:Inv X pins σ H { s with heap:=h',toks:=s.toks+1 }:=I.turned (fun b o hb e=>(sb.2 b hb).trans e) f0 f1 f3 f4 f5
   obtain ⟨oj,e1,e2,e3⟩:=id J'
   exact ⟨_,rfl,qpz (s:={ s with heap:=h',toks:=s.toks+1 }) e1 e2 e3 (by decide) ⟨.str ⟨#[z.cps[i]]⟩,H,I1,I.ts _,⟨rfl,_,hx,rfl⟩,J',fun b hb=>(hf b hb).1⟩⟩
 done:=by
   intro X hP hw hK hc i pins s σ H E I hf J hg
   subst hP hw hK
   obtain ⟨f0,f1,f2,f3,f4,f5⟩:=hf it (by simp)
   exact wpAny_pyNext_ascii_end (I.ok.hd hc) J (ybw hg) fun h' eb=>⟨rfl,I.turned (t':=s.toks) (fun b o hb e=>eb b o hb e) f0 f1 f3 f4 f5⟩
 self:=fun _ _ _ _ _ J q=>wpAny_pyIter_striter_ascii J q
def qsY (tl:TE):TI:=fun σ H R=>tl σ H fun x H1=>∃z:Str,x = .str z/\z.cps.all (· < 128)=true/\R (Its z) H1
section
variable {X:Cx} {tg:Expr}
theorem qqP {l:Expr} {tl:TE} (hl:PE X l tl):PI X tg l (qsY tl):=by
 intro pins s σ H R I h
 refine thn (hl pins s σ H _ I h) fun v s1 ⟨x,H1,I1,r1,z,ex,ha,q⟩=>?_
 subst ex
 obtain ⟨t,rfl⟩:=r1
 refine wpAny_pyIter_ascii ha ⟨s1.heap.objs.size,[s1.heap.objs.size],_,_,H1,rfl,I1.kept (t':=s1.toks) fun b o e=>ycr _ e,qmX z _ _,⟨_,ycq _ rfl,rfl,rfl⟩,fun b hb=>?_,q⟩
 obtain rfl:b=s1.heap.objs.size:=by simpa using hb
 exact I1.fpOk (yax _) (I1.hok.fresh (yax _))
end
section
variable {g:TG} {tb:TS} {D:qeY} {σ:St} {H:Hp} {z:Str} {nt:Nat} {caps:List Nat} {tt:TT} {te tl:TE} {Q:VK}
theorem qsj:qoq (qsY tl) g tb D σ H↔tl σ H fun x H1=>∃z:Str,x = .str z/\z.cps.all (· < 128)=true/\qgB (Its z) g tb D σ H1:=Iff.rfl
theorem qql:qfO nt caps (qsY tl) g tt te σ H Q↔tl σ H fun x H1=>∃z:Str,x = .str z/\z.cps.all (· < 128)=true/\qdN (Its z) nt caps g tt te σ H1 Q:=Iff.rfl
def sgs (z:Str):List Nat:=z.cps.toList
theorem qoW (z:Str):(sgs z).length=z.length:=by simp [sgs,Str.length]
theorem qsd {z:Str} {i:Nat}:(sgs z)[i]?=z.cps[i]?:=by simp [sgs]
theorem qef (c:Nat->Bool) (fs:List Nat) (i x:Nat) (hx:fs[i]?=some x):(fs.take (i+1)).filter c=(fs.take i).filter c++if c x=true then [x] else []:=by
 rw [yfj,hx,yau]
 cases h:c x<;>simp [h]
theorem qry (c:Nat->Bool) (f:Nat->V) (hz:z.length<=100000)
   (hs:∀x∈sgs z,∀H1,qas H H1->∀(R:VK) (R':Hp->Prop),(c x=true->∀H2,qas H1 H2->R (f x) H2)->(c x=false->∀H2,qas H1 H2->R' H2) ->
     g (.str ⟨#[x]⟩) (qbE nt caps σ) H1 fun σ4 H4=>tt σ4 H4 fun b H5=>if b=true then te σ4 H5 R else R' H5)
   (hd:∀H1 p,qas H H1->H1 p=none->Q (.ref p) (upd H1 p (.lst (((sgs z).filter c).map f)))):qdN (Its z) nt caps g tt te σ H Q:=by
 have e24:sizeLine=16777216:=sizeLine_eq
 refine ⟨fun i m ys H1=>m=z.length-i/\i<=z.length/\qas H H1/\ys=(((sgs z).take i).filter c).map f,⟨_,rfl,ybv _,qas.refl _,rfl⟩,?_⟩
 rintro i m ys H2 ⟨rfl,hi,sm,rfl⟩
 have ln:((((sgs z).take i).filter c).map f).length<=i:=by
   rw [ycj]
   exact ybt (yff _ _) (by rw [yee];omega)
 rcases yag i z.length with k | k
 . refine .inr ⟨k,by omega,fun x H3 y=>?_⟩
   obtain ⟨rfl,cc,k1,rfl⟩:=y
   have k2:(sgs z)[i]?=some cc:=qsd.trans k1
   have ex:=qef c (sgs z) i cc k2
   refine hs cc (ydk k2) _ sm _ _ (fun hc H4 s4=>⟨z.length-(i+1),by omega,rfl,k,sm.trans s4,?_⟩) fun hc H4 s4=>⟨z.length-(i+1),by omega,rfl,k,sm.trans s4,?_⟩
   . rw [ex,hc,if_pos rfl,ycl]
     rfl
   . rw [ex,hc,if_neg ydu,yda]
 . obtain rfl:i=z.length:=by omega
   refine .inl ⟨yax _,by omega,fun p hp=>?_⟩
   rw [show (sgs z).take z.length=sgs z from by rw [<-qoW];exact ycb]
   exact hd H2 p sm hp
end
section
variable {X:Cx} {K:PySem.W.Frag}
def quf (K:PySem.W.Frag):List V->Hp->VK->Prop:=fun xs H Q=>∃(l:Addr) (bs:List Bool),xs=[.ref l]/\SqL K H l (bs.map V.bl)/\Q (.bl (bs.all id)) H
theorem qn6 (hc:X.calm=true) (hK:X.K=K):qcM X (.builtin "all") (quf K):=by
 subst hK
 intro pins s σ H xs us Q I r h
 obtain ⟨l,bs,rfl,hq,q⟩:=h
 obtain ⟨u,rfl,ru⟩:=qfH r
 cases (show u=Value.ref l from ru)
 obtain ⟨its,rv,p,hz⟩:=I.list hq
 have hl:=rv.length
 rw [ycj] at hl
 have hlt:l<s.heap.objs.size:=by
   obtain ⟨o,e,_⟩:=p.isList
   exact ycs e
 refine wpAny_with_toks I.tk (call_all_walk (wpAny_pyIter_list p.isList ?_))
 refine ⟨s.heap.objs.size,_,_,_,_,_,fun i=>bs.getD i true,rfl,Walks.list (A:=X.A.in1) (I.ok.hd hc) _ l (ycu hlt) its.toArray,⟨⟨_,ycq _ rfl,rfl,rfl⟩,?_⟩,fun i v s2 Q2 E2 hv hQ=>?_,fun h' tk hk htk=>?_⟩
 . obtain ⟨o,e,rr⟩:=p.isList
   exact ⟨o,ycr _ e,rr⟩
 . have hv:its[i]?=some v:=by simpa using hv
   have hi:i<bs.length:=by
     have:=(ybr.mp hv).1
     omega
   obtain ⟨u2,h2,r2⟩:=rv.get (i:=i) (x := .bl bs[i]) (by rw [ydf,ydc hi];rfl)
   rw [hv] at h2
   cases h2
   cases (show v=Value.bool bs[i] from r2)
   have hQ:Q2 (bs.getD i true) s2:=hQ
   rw [yey,ydc hi] at hQ
   exact wpAny_pure hQ
 . have e:(List.range its.toArray.size).all (fun i=>bs.getD i true)=bs.all id:=by
     rw [yen,<-hl,yav,ybf,ybf]
     constructor
     . intro z b hb
       obtain ⟨j,hj,rfl⟩:=List.mem_iff_getElem.mp hb
       have:=z j (ybh.mpr hj)
       rw [yey,ydc hj] at this
       exact this
     . intro z j hj
       have hj:=ybh.mp hj
       rw [yey,ydc hj]
       exact z _ (yck hj)
   rw [e]
   refine ⟨.bl _,H,I.kept (ht:=htk) fun b o z=>?_,rfl,q⟩
   refine hk b o (fun hm=>?_) (ycr _ z)
   have l1:=ycs z
   have e1:b=s.heap.objs.size:=by simpa using hm
   rw [e1] at l1
   exact absurd l1 (ydn _)
end
end L2
namespace L2
open PySem PySem.Spec PyProof.Rows
def qco (v:Nat->Str):Nat->List Str
 | 0=>[]
 | i+1=>if (qco v i).any (·==v i) then qco v i else qco v i++[v i]
theorem qeO (v:Nat->Str) (i:Nat) (k:Str):(qco v (i+1)).any (·==k)=((qco v i).any (·==k)||decide (k=v i)):=by
 show (if (qco v i).any (·==v i) then qco v i else qco v i++[v i]).any (·==k)=_
 by_cases c:(qco v i).any (·==v i)=true
 . rw [if_pos c]
   by_cases e:k=v i
   . rw [e,c];rfl
   . rw [decide_eq_false e,ydl]
 . rw [if_neg c,List.any_append]
   congr 1
   simp only [yep,List.any_nil,ydl]
   rw [yav,beq_iff_eq,decide_eq_true_eq]
   exact eq_comm
theorem qdJ (v:Nat->Str) (i:Nat):(qco v (i+1)).length=if (qco v i).any (·==v i) then (qco v i).length else (qco v i).length+1:=by
 show (if (qco v i).any (·==v i) then qco v i else qco v i++[v i]).length=_
 split
 . rfl
 . simp
theorem qfG (v:Nat->Str):∀i,(qco v i).length<=i
 | 0=>yax _
 | i+1=>by
   rw [qdJ]
   have:=qfG v i
   split<;>omega
section
variable {prog:Program} {w:World} {A:Around} {R:Result->Shared->Prop} {I:Addr} {fp wr:List Addr} {G:Array GenState->Array GenState->Prop} {n:Nat} {P:Nat->Value->Prop} {St:Nat->Shared->Prop}
theorem qnd (W:WalksS prog w A.in1 I fp wr G n P St) (a:Addr) (na:a∉fp) (val:Nat->Str) (hv:∀i v,P i v->∃t,v = .str (val i) t) (few:n+1<scanBound) :
   ∀(k i:Nat) (s:Shared),n-i=k->i<=n->St i s->s.heap.SetOf (PySem.strKind prog w) a (fun x=>(qco val i).any (·==x)) (qco val i).length ->
     (∀s',Moved (a::wr) G s s'->s'.heap.SetOf (PySem.strKind prog w) a (fun x=>(qco val n).any (·==x)) (qco val n).length->R (.ok (.ret .none)) s') ->
     codeAny (model prog w) A (.builtin "set.update.loop" ⟨[.ref a,.ref I],[]⟩) R s:=by
 have nw:a∉wr:=fun z=>na (W.sub _ z)
 have qg9:∀b∈wr,b∈a::wr:=fun b z=>ybe _ z
 have keepS:∀{j:Nat} {s s':Shared},Moved wr G s s'->s.heap.SetOf (PySem.strKind prog w) a (fun x=>(qco val j).any (·==x)) (qco val j).length->s'.heap.SetOf (PySem.strKind prog w) a (fun x=>(qco val j).any (·==x)) (qco val j).length:=fun {j s s'} mv z=>by
   obtain ⟨o,es,ep,t,ho,rr⟩:=z
   exact ⟨o,es,ep,t,mv.heap a _ nw ho,rr⟩
 intro k
 induction k with
 | zero =>
   intro i s hk hi hst hS hR
   obtain rfl:i=n:=by omega
   refine codeAny_builtin F.entry_set_update_loop ?_
   rw [Around.under_plainId F.plain_set_update_loop _]
   refine (wpAny_bind (m:=pyNext (.ref I)) (W.done s _ _ hst fun s' mv=>?_))
   exact wpAny_pure (hR s' (mv.mono qg9) (keepS mv hS))
 | succ k ih =>
   intro i s hk hi hst hS hR
   have lt:i<n:=by omega
   refine codeAny_builtin F.entry_set_update_loop ?_
   rw [Around.under_plainId F.plain_set_update_loop _]
   refine (wpAny_bind (m:=pyNext (.ref I)) (W.item i s _ _ lt hst fun v s' pv st' mv=>?_))
   obtain ⟨t,rfl⟩:=hv i v pv
   have hS1:=keepS mv hS
   refine wpAny_bind (m:=holding [Value.str (val i) t] (setAdd a (.str (val i) t))) (wpAny_holding ?_)
   unfold setAdd
   refine (wpAny_holding ?_)
   have isv:(PySem.strKind prog w).is (val i) (.str (val i) t)=true:=strKind_is _ _ _ _
   refine wpAny_bind ((PySem.strKind prog w).pyHash (k:=val i) isv ?_)
   refine wpAny_setAddHashed_of (knd:=PySem.strKind prog w) (s:={ s' with toks:=s'.toks+1 }) isv rfl hS1 (by have:=qfG val i;omega) fun h' sb hS2=>?_
   have hS3:h'.SetOf (PySem.strKind prog w) a (fun x=>(qco val (i+1)).any (·==x)) (qco val (i+1)).length:=SetOf_congr hS2 (fun x=>(qeO val i x).symm) (qdJ val i).symm
   refine wpAny_pure ⟨plainId_quiet F.plain_set_update_loop _,ih (i+1) _ (by omega) lt (W.frame _ s' _ _ st' (ycp _) fun b hb o e=>?_) hS3 fun s2 mv2 hS4=>?_⟩
   . exact (sb.2 b (fun z:b=a=>na (z▸hb))).trans e
   . refine hR s2 (Moved.trans W.gtrans ((mv.mono qg9).then_heap (ycp _) fun b o hb e=>?_) mv2) hS4
     exact (sb.2 b (fun z:b=a=>hb (by rw [z];exact ybb))).trans e
end
theorem qmo:∀{vs:List Value} {ys:List Str},StrsAre vs ys->∀(i:Nat) (v:Value),vs[i]?=some v->∃t,v = .str (ys.getD i Str.empty) t
 | _,_,.nil,i,v,h=>by simp at h
 | _,_,.cons y t r,0,v,h=>by cases h;exact ⟨t,rfl⟩
 | _,_,.cons y t r,i+1,v,h=>qmo r i v (by simpa using h)
section
variable {prog:Program} {w:World} {A:Around} {E:Value->Shared->Prop} {s:Shared}
abbrev es0 (led:Bool):Obj:={ cls := .type "set",dict:=none,data := .set #[] 0 (.fresh 0 0 led) }
set_option maxHeartbeats 3200000 in
theorem qmQ {l:Addr} {items:Array Value} {ys:List Str} {Q:Value->Shared->Prop} (hh:A.handled=none) (hl:s.heap.IsList l items) (hi:StrsAre items.toList ys) (few:items.size+1<scanBound)
   (k:∀(h':Heap) (tk:Nat),h'.SetOf (PySem.strKind prog w) s.heap.objs.size (fun x=>(qco (fun i=>ys.getD i Str.empty) items.size).any (·==x)) (qco (fun i=>ys.getD i Str.empty) items.size).length ->
     (∀b o,b<s.heap.objs.size->s.heap.get? b=some o->h'.get? b=some o)->Q (.ref s.heap.objs.size) { s with heap:=h',toks:=tk }) :
   wpAny (model prog w) A (call (.type "set") [.ref l]) Q E s:=by
 obtain ⟨c,tl,hmro⟩:=(F.called_set.mro)
 have k1:=F.called_set.made
 have k2:=F.called_set.sub
 refine (wpAny_call (codeAny_of_tree ?_))
 show wpAny _ _ (callAny (.type "set") _) _ _ s
 refine (wpAny_pure ⟨Code.quiet_builtin _ (by decide +kernel),codeAny_builtin F.entry_type_call ?_⟩)
 rw [Around.under_plain (weight_type_call_type "set" [.ref l] []) rfl]
 have k3:=F.called_set.notType
 have k4:=F.called_set.canCreate
 have k5:=F.typeCall_set_1 (.ref l)
 repeat (any_goals (first | assumption | wp_step))
 refine codeAny_mono (code_set_new_1 (.ref l) (E:=E) (Q₁:=fun ob s1=>∃led:Bool,ob = .ref s.heap.objs.size/\s1={ s with heap:=s.heap.push (es0 led) }) fun led=>⟨led,rfl,rfl⟩) fun r s1 hr=>?_
 cases r with
 | error e=>exact hr
 | ok fl =>
   cases fl with
   | ret ob =>
     obtain ⟨led,rfl,rfl⟩:=hr
     have at0:(s.heap.push (es0 led)).get? s.heap.objs.size=some (es0 led):=ycq _ rfl
     have ty0:Shared.TypeIs { s with heap:=s.heap.push (es0 led) } (.ref s.heap.objs.size) "set" := ⟨_,at0,rfl⟩
     have k6:=F.called_set.init.lookup
     have k7:=F.called_set.init.bind (.ref s.heap.objs.size)
     repeat (any_goals (first | assumption | wp_step))
     refine codeAny_mono (codeAny_call_builtin (R:=wants (fun r s2=>r = .none/\∃h' tk,s2={ s with heap:=h',toks:=tk } /\
         h'.SetOf (PySem.strKind prog w) s.heap.objs.size (fun x=>(qco (fun i=>ys.getD i Str.empty) items.size).any (·==x)) (qco (fun i=>ys.getD i Str.empty) items.size).length /\
         (∀b o,b<s.heap.objs.size->s.heap.get? b=some o->h'.get? b=some o)) E) F.called_set.init.plain F.entry_set_init (check_set_init_1 ty0 ?_)) fun r2 s2 hr2=>?_
     . obtain ⟨ol,at1,c1,nl,d1⟩:=hl
       obtain ⟨o1,o2,o3,o4⟩:=ol
       simp only at c1 d1
       subst c1
       subst d1
       have at2:(s.heap.push (es0 led)).get? l=some { cls := .type "list",dict:=o2,data := .seq items nl,slots:=o4 }:=ycr _ at1
       have k8:=F.sub_list_set
       have k9:=F.sub_list_frozenset
       have k10:(Value.type "list" == Value.type "dict")=false:=by decide
       have il:(s.heap.push (es0 led)).IsList l items:=⟨_,at2,rfl,nl,rfl⟩
       unfold Builtin.«set.__init__» noKeywords Builtin.Frozenset.updateFrom
       generalize gPI:pyIter=PI
       wp_walk
       subst gPI
       refine (wpAny_pyIter_list il ?_)
       refine (wpAny_bind (wpAny_runValue ?_))
       have l0:l<s.heap.objs.size:=ycs at1
       have h3:A.in1.in1.in1.handled=none:=by simp [hh]
       have n1:l≠(s.heap.push (es0 led)).objs.size:=by
         rw [yct]
         exact ycu (ycv l0)
       have n2:s.heap.objs.size∉[(s.heap.push (es0 led)).objs.size,l]:=by
         rw [yct]
         simp only [ybd,ydi,ycw,or_false,not_or]
         exact ⟨ycu (ybx _),ycx l0⟩
       refine qnd ((Walks.list h3 _ l n1 items).toS) s.heap.objs.size n2 (fun i=>ys.getD i Str.empty) (fun i v hv=>qmo hi i v (by rw [ybq];exact hv)) few (items.size-0) 0 _ (by omega) (ybv _)
         ⟨⟨_,ycq _ rfl,rfl,rfl⟩,(il.push _)⟩ ?h0 ?hR
       case h0=>exact SetOf_congr ((setObjOf_fresh (knd:=PySem.strKind prog w) led).setOf (ycr _ at0) (by unfold scanBound;omega)) (fun _=>rfl) rfl
       case hR =>
         intro s' mv hS'
         obtain ⟨h',g',d',tk',os'⟩:=s'
         cases (show g'=s.gens from mv.gens)
         cases (show d'=s.drawn from mv.drawn)
         cases (show os'=s.os from mv.os)
         refine (wpAny_pure ?_)
         show wpAny _ _ (ret Value.none) _ _ _
         refine wpAny_pure ⟨rfl,h',tk',rfl,hS',fun b o hb e=>mv.heap b o ?_ (ycr _ (ycr _ e))⟩
         simp only [ybd,ydi,ycw,or_false,not_or]
         exact ⟨ycu hb,by rw [yct];exact ycu (ycv hb)⟩
     . cases r2 with
       | error e=>exact hr2
       | ok fl2 =>
         cases fl2 with
         | ret r =>
           obtain ⟨rfl,h',tk,rfl,z1,z2⟩:=hr2
           repeat (any_goals (first | assumption | wp_step))
           exact k _ _ z1 z2
         | _=>exact hr2.elim
   | _=>exact hr.elim
end
def cnt (ys:List Str):Nat:=(qco (fun i=>ys.getD i Str.empty) ys.length).length
abbrev SsO (P:Program) (w:World) (a:Addr) (n:Nat):HO := .ext fun h=>∃S:Str->Bool,h.SetOf (PySem.strKind P w) a S n
section
variable {X:Cx} {P:Program} {w:World} {K:PySem.W.Frag}
def qsO (P:Program) (w:World) (K:PySem.W.Frag):List V->Hp->VK->Prop:=fun xs H Q=>∃(l:Addr) (ys:List Str),xs=[.ref l]/\SqL K H l (sV ys)/\ys.length<=1000/\∀p,H p=none->Q (.ref p) (upd H p (SsO P w p (cnt ys)))
theorem qlq (hP:X.prog=P) (hw:X.w=w) (hK:X.K=K) (hc:X.calm=true):qcM X (.type "set") (qsO P w K):=by
 subst hP hw hK
 intro pins s σ H xs us Q I r h
 obtain ⟨l,ys,rfl,hq,hn,q⟩:=h
 obtain ⟨u,rfl,ru⟩:=qfH r
 cases (show u=Value.ref l from ru)
 obtain ⟨its,rv,p,hz⟩:=I.list hq
 have hi:=qh7 rv
 have hl:=StrsAre.len hi
 refine wpAny_with_toks I.tk (qmQ (I.ok.hd hc) p.isList (ys:=ys) (by simpa using hi) (by rw [yen,hl];unfold scanBound;omega) fun h' tk hS kp htk=>?_)
 have hS2:h'.SetOf (PySem.strKind X.prog X.w) s.heap.objs.size (fun x=>(qco (fun i=>ys.getD i Str.empty) ys.length).any (·==x)) (cnt ys):=by
   have hsz:its.toArray.size=ys.length:=by rw [yen,hl]
   rw [hsz] at hS
   exact hS
 refine ⟨.ref s.heap.objs.size,_,I.laid (ht:=htk) (o:=SsO X.prog X.w s.heap.objs.size (cnt ys)) (fun b o e=>kp b o (ycs e) e) (yax _) ⟨⟨_,hS2⟩,?_,fun h1 h2 ⟨S,z⟩ kk=>?_⟩,rfl,q _ I.fresh⟩
 . obtain ⟨o,_,_,_,e,_⟩:=hS2
   exact ⟨o,e⟩
 . obtain ⟨o,es,ep,t,e,rr⟩:=z
   exact ⟨S,o,es,ep,t,kk o e,rr⟩
def qs5 (P:Program) (w:World):List V->Hp->VK->Prop:=fun xs H Q=>∃(p:Addr) (n:Nat),xs=[.ref p]/\H p=some (SsO P w p n)/\n<=1000/\Q (.int (n:Nat)) H
theorem qmh (hP:X.prog=P) (hw:X.w=w):qcM X (.builtin "len") (qs5 P w):=by
 subst hP hw
 intro pins s σ H xs us Q I r h
 obtain ⟨p,n,rfl,e,hn,q⟩:=h
 obtain ⟨u,rfl,ru⟩:=qfH r
 cases (show u=Value.ref p from ru)
 obtain ⟨S,o,es,ep,t,e1,e2,e3,e4,e5,e6,e7,e8⟩:=(show qbs X.prog X.w H s.heap p (SsO X.prog X.w p n) from I.hok p _ e).1
 have hs:es.size=n:=e8
 exact call_len_set e1 e2 e3 e7 (by omega) ⟨.int (n:Nat),H,I.tok _,⟨_,by rw [hs]⟩,q⟩
end
theorem qcZ {X:Cx} {x z:Str} {p:Pos} (h:∃t,X.mg x=some (.str z (t+1))) (hg:Gl X x) (hd:(x==("__debug__" : Str))=false:=by decide):PE X (.Name x p) (tC (.str z)):=by
 obtain ⟨t,h⟩:=h
 exact qcj hg h ⟨t,rfl⟩ hd
theorem qnL {D:qeY} {σ:St} {H:Hp} {c:TT} {u:TS}:qjT (qqC c qqZ qj5) u D σ H↔c σ H fun b H1=>if b=true then False else u D σ H1:=Iff.rfl
end L2
namespace Tx
open PySem
abbrev sg (z:Str):List Nat:=z.cps.toList
theorem ext {a b:Str} (h:sg a=sg b):a=b:=by
 obtain ⟨a⟩:=a
 obtain ⟨b⟩:=b
 have:a=b:=Array.toList_inj.mp h
 rw [this]
theorem sg_app (a b:Str):sg (a++b)=sg a++sg b:=by
 show (a.cps++b.cps).toList=_
 simp
def jn (c:Nat):List (List Nat)->List Nat
 | []=>[]
 | [x]=>x
 | x::y::r=>x++c::jn c (y::r)
theorem sg_join (c:Nat):∀ys:List Str,sg (Str.join ⟨#[c]⟩ ys)=jn c (ys.map sg)
 | []=>rfl
 | [x]=>rfl
 | x::y::r=>by
   show sg (x++⟨#[c]⟩++Str.join ⟨#[c]⟩ (y::r))=sg x++c::jn c ((y::r).map sg)
   rw [sg_app,sg_app,sg_join c (y::r),ycd]
   rfl
theorem jn_cons {c:Nat} {x:List Nat} {r:List (List Nat)} (h:r≠[]):jn c (x::r)=x++c::jn c r:=by
 cases r with
 | nil=>exact absurd rfl h
 | cons y r=>rfl
theorem qoG {c:Nat}:∀{x y a b:List Nat},c∉x->c∉y->x++c::a=y++c::b->x=y/\a=b
 | [],[],a,b,_,_,h=>⟨rfl,by simpa using h⟩
 | [],q::y,a,b,_,hy,h=>by
   have:=List.cons.inj h
   exact absurd (this.1▸ybb) hy
 | p::x,[],a,b,hx,_,h=>by
   have:=List.cons.inj h
   exact absurd (this.1▸ybb) hx
 | p::x,q::y,a,b,hx,hy,h=>by
   have h:=List.cons.inj h
   obtain ⟨e1,e2⟩:=qoG (fun z=>hx (ybe _ z)) (fun z=>hy (ybe _ z)) h.2
   exact ⟨by rw [h.1,e1],e2⟩
theorem qoH {c:Nat}:∀{xs ys:List (List Nat)},xs≠[]->ys≠[]->(∀x∈xs,c∉x)->(∀y∈ys,c∉y)->jn c xs=jn c ys->xs=ys
 | [],_,h,_,_,_,_=>absurd rfl h
 | _,[],_,h,_,_,_=>absurd rfl h
 | [x],[y],_,_,_,_,h=>by rw [show x=y from h]
 | [x],y::q::r,_,_,hx,hy,h=>by
   have h:x=y++c::jn c (q::r):=h
   exact absurd (by rw [h];simp) (hx x ybb)
 | x::p::s,[y],_,_,hx,hy,h=>by
   have h:x++c::jn c (p::s)=y:=h
   exact absurd (by rw [<-h];simp) (hy y ybb)
 | x::p::s,y::q::r,_,_,hx,hy,h=>by
   have h:x++c::jn c (p::s)=y++c::jn c (q::r):=h
   obtain ⟨e1,e2⟩:=qoG (hx x ybb) (hy y ybb) h
   rw [e1,qoH (by simp) (by simp) (fun z hz=>hx z (ybe _ hz)) (fun z hz=>hy z (ybe _ hz)) e2]
theorem txt_join (c:Nat) (ys:List Str):sg (Txt.join ⟨#[c]⟩ ys)=jn c (ys.map sg):=by
 rw [show Txt.join ⟨#[c]⟩ ys=Str.join ⟨#[c]⟩ ys from StrLaws.glued_eq_join _ _,sg_join]
theorem qoE:∀{a b:List Str},a.map sg=b.map sg->a=b
 | [],[],_=>rfl
 | [],_::_,h=>by cases h
 | _::_,[],h=>by cases h
 | x::a,y::b,h=>by
   have h:=List.cons.inj h
   rw [ext h.1,qoE h.2]
theorem split_join {c:Nat} {ws:List Str} (h0:ws≠[]) (h:∀w∈ws,c∉sg w):Txt.split (Txt.join ⟨#[c]⟩ ws) ⟨#[c]⟩=ws:=by
 have e1:=StrLaws.join_split (Txt.join ⟨#[c]⟩ ws) ⟨#[c]⟩
 have e2:=congrArg sg e1
 rw [sg_join,txt_join] at e2
 have fr:=StrLaws.split_free (Txt.join ⟨#[c]⟩ ws) c
 refine qoE (qoH (c:=c) (fun z=>?_) (fun z=>h0 (yfk.mp z)) (fun x hx=>?_) (fun x hx=>?_) e2)
 . have:=PyProof.Rows.split_pos (Txt.join ⟨#[c]⟩ ws) ⟨#[c]⟩
   rw [yfk.mp z] at this
   exact absurd this (by decide)
 . obtain ⟨p,hp,rfl⟩:=ybn.mp hx
   exact fr p hp
 . obtain ⟨p,hp,rfl⟩:=ybn.mp hx
   exact h p hp
theorem jn_mem {c d:Nat}:∀{xs:List (List Nat)},d∈jn c xs->d=c\/∃x∈xs,d∈x
 | [],h=>by cases h
 | [x],h => .inr ⟨x,ybb,h⟩
 | x::y::r,h=>by
   have h:d∈x++c::jn c (y::r):=h
   rcases yat.mp h with z | z
   . exact .inr ⟨x,ybb,z⟩
   . rcases ybd.mp z with z | z
     . exact .inl z
     . rcases jn_mem z with w | ⟨q,w1,w2⟩
       . exact .inl w
       . exact .inr ⟨q,ybe _ w1,w2⟩
theorem jn_len {c M:Nat}:∀{xs:List (List Nat)},(∀x∈xs,x.length<=M)->(jn c xs).length<=xs.length*(M+1)
 | [],_=>ybv _
 | [x],h=>by
   have:=h x ybb
   show x.length<=1*(M+1)
   omega
 | x::y::r,h=>by
   have h1:=h x ybb
   have h2:=jn_len (c:=c) (M:=M) (xs:=y::r) fun z hz=>h z (ybe _ hz)
   show (x++c::jn c (y::r)).length<=_
   rw [ycm,yea]
   have e:(x::y::r).length*(M+1)=(y::r).length*(M+1)+(M+1):=by rw [yea (a:=x),Nat.add_mul,yfl]
   rw [e]
   omega
def Wd (w:Str):Prop:=1<=w.length/\w.length<=8/\∀c∈sg w,97<=c/\c<=122
theorem Wd.free {w:Str} (h:Wd w) {c:Nat} (hc:c<97):c∉sg w:=fun z=>by
 have:=(h.2.2 c z).1
 omega
theorem len_sg (w:Str):(sg w).length=w.length:=by simp [sg,Str.length]
structure Wds (ws:List Str):Prop where
 few:ws.length<=8
 nd:ws.Nodup
 wd:∀w∈ws,Wd w
 no:("none" : Str)∉ws
theorem lit_plus:("+" : Str)=⟨#[43]⟩:=by decide +kernel
theorem lit_space:(" " : Str)=⟨#[32]⟩:=by decide +kernel
theorem lit_dash:("-" : Str)=⟨#[45]⟩:=by decide +kernel
theorem lit_none:("none" : Str)=⟨#[110,111,110,101]⟩:=by decide +kernel
theorem lit_empty:("" : Str)=⟨#[]⟩:=by decide +kernel
def wds (ws:List Str) (a:Nat):List Str:=(Fam.nms 8 a).map fun k=>ws.getD k Str.empty
def sT (ws:List Str) (a:Nat):Str:=if a=0 then "-" else Txt.join "+" (wds ws a)
def fT (ws:List Str) (fs:List Nat):Str:=if fs=[] then "none" else Txt.join " " (fs.map (sT ws))
theorem qnl:∀a,a<256->Fam.nms 8 a=[]->a=0:=by decide +kernel
section
variable {ws:List Str} {a:Nat}
theorem nms_lt (ha:a<2^ws.length) {k:Nat} (hk:k∈Fam.nms 8 a):k<ws.length:=by
 have hb:=(Fam.mem_nms.mp hk).2
 rcases yag k ws.length with c | c
 . exact c
 . rw [yad (yae ha (yaf (by decide) c))] at hb
   cases hb
theorem wds_mem (h:Wds ws) (ha:a<2^ws.length) {w:Str} (hw:w∈wds ws a):w∈ws:=by
 obtain ⟨k,hk,rfl⟩:=ybn.mp hw
 have hl:=nms_lt ha hk
 rw [yey,ydc hl]
 exact yck hl
theorem lt256 (h:Wds ws) (ha:a<2^ws.length):a<256:=yae ha (yaf (n:=2) (by decide) h.few)
theorem wds_ne (h:Wds ws) (ha:a<2^ws.length) (h0:a≠0):wds ws a≠[]:=fun z=>h0 (qnl a (lt256 h ha) (yfk.mp z))
theorem qny (h:Wds ws) (ha:a<2^ws.length):Txt.split (sT ws a) "+" = if a=0 then [("-" : Str)] else wds ws a:=by
 rw [lit_plus]
 unfold sT
 by_cases c:a=0
 . rw [if_pos c,if_pos c]
   have:Txt.split (Txt.join ⟨#[43]⟩ [("-" : Str)]) ⟨#[43]⟩=[("-" : Str)]:=split_join (by simp) fun w hw=>by
     rw [ydi.mp hw,lit_dash]
     decide
   exact this
 . rw [if_neg c,if_neg c,lit_plus]
   exact split_join (wds_ne h ha c) fun w hw=>(h.wd w (wds_mem h ha hw)).free (by decide)
theorem qpM (h:Wds ws) (ha:a<2^ws.length):32∉sg (sT ws a):=by
 unfold sT
 by_cases c:a=0
 . rw [if_pos c,lit_dash]
   decide
 . rw [if_neg c,lit_plus,txt_join]
   intro z
   rcases jn_mem z with e | ⟨x,hx,hz⟩
   . exact absurd e (by decide)
   . obtain ⟨w,hw,rfl⟩:=ybn.mp hx
     exact (h.wd w (wds_mem h ha hw)).free (by decide) hz
theorem sT_len (h:Wds ws) (ha:a<2^ws.length):(sT ws a).length<=72:=by
 unfold sT
 by_cases c:a=0
 . rw [if_pos c,lit_dash]
   decide
 . rw [if_neg c,<-len_sg,lit_plus,txt_join]
   have h1:=jn_len (c:=43) (M:=8) (xs:=(wds ws a).map sg) fun x hx=>by
     obtain ⟨w,hw,rfl⟩:=ybn.mp hx
     rw [len_sg]
     exact (h.wd w (wds_mem h ha hw)).2.1
   have h2:((wds ws a).map sg).length<=8:=by
     rw [ycj]
     unfold wds Fam.nms
     rw [ycj]
     exact ybt (yff _ _) (by simp)
   exact ybt h1 (yfm h2 (yax 9))
theorem qqs (h:Wds ws) (ha:a<2^ws.length):sT ws a ≠ "none" := by
 unfold sT
 by_cases c:a=0
 . rw [if_pos c]
   decide +kernel
 . rw [if_neg c]
   intro z
   have hm:=fun w hw=>wds_mem h ha (w:=w) hw
   have ne:=wds_ne h ha c
   have e:=congrArg sg z
   rw [lit_plus,txt_join,lit_none] at e
   cases hw:wds ws a with
   | nil=>exact ne hw
   | cons x r =>
     cases r with
     | nil =>
       rw [hw] at e
       have ex:x = "none" := by
         rw [lit_none]
         exact ext e
       exact h.no (ex▸hm x (by rw [hw];exact ybb))
     | cons y r =>
       rw [hw] at e
       have e:sg x++43::jn 43 ((y::r).map sg)=[110,111,110,101]:=e
       have:43∈[110,111,110,101]:=by
         rw [<-e]
         simp
       exact absurd this (by decide)
theorem split_fT (h:Wds ws) {fs:List Nat} (hb:∀b∈fs,b<2^ws.length):Txt.split (fT ws fs) " " = if fs=[] then [("none" : Str)] else fs.map (sT ws):=by
 rw [lit_space]
 unfold fT
 by_cases c:fs=[]
 . rw [if_pos c,if_pos c]
   have:Txt.split (Txt.join ⟨#[32]⟩ [("none" : Str)]) ⟨#[32]⟩=[("none" : Str)]:=split_join (by simp) fun w hw=>by
     rw [ydi.mp hw,lit_none]
     decide
   exact this
 . rw [if_neg c,if_neg c,lit_space]
   refine split_join (fun z=>c (yfk.mp z)) fun w hw=>?_
   obtain ⟨b,hb',rfl⟩:=ybn.mp hw
   exact qpM h (hb b hb')
theorem fT_len (h:Wds ws) {fs:List Nat} (hb:∀b∈fs,b<2^ws.length) (hn:fs.length<=100):(fT ws fs).length<=7300:=by
 unfold fT
 by_cases c:fs=[]
 . rw [if_pos c,lit_none]
   decide
 . rw [if_neg c,<-len_sg,lit_space,txt_join]
   have h1:=jn_len (c:=32) (M:=72) (xs:=(fs.map (sT ws)).map sg) fun x hx=>by
     obtain ⟨w,hw,rfl⟩:=ybn.mp hx
     obtain ⟨b,hb',rfl⟩:=ybn.mp hw
     rw [len_sg]
     exact sT_len h (hb b hb')
   rw [ycj,ycj] at h1
   exact ybt h1 (yfm hn (yax 73))
theorem qmt (h:Wds ws) (ha:a<2^ws.length):(wds ws a).map (fun w=>ws.idxOf w)=Fam.nms 8 a:=by
 unfold wds
 rw [ydg]
 have:∀k∈Fam.nms 8 a,((fun w=>ws.idxOf w) ∘ fun k=>ws.getD k Str.empty) k=k:=fun k hk=>by
   have hl:=nms_lt ha hk
   show ws.idxOf (ws.getD k Str.empty)=k
   rw [yey,ydc hl,Option.getD_some]
   exact h.nd.idxOf_getElem k hl
 rw [yfe this,List.map_id']
end
end Tx
namespace L2
open PySem PySem.Spec PyProof.Rows
theorem qdK (ys:List Str):(sV ys).all qb2=true:=by
 rw [ybf]
 intro x hx
 obtain ⟨z,_,rfl⟩:=ybn.mp hx
 rfl
theorem qjk (a b:List Str):qgf (sV a) (sV b)=decide (a=b):=by
 unfold qgf
 rw [ycj,ycj]
 by_cases hl:a.length=b.length
 . rw [show (a.length==b.length)=true by simpa using hl,yez]
   rw [yav,ybf,decide_eq_true_eq]
   constructor
   . intro h
     refine ydj hl fun i h1 h2=>?_
     have q:=h i (ybh.mpr h1)
     simpa [List.getD,h1,h2,eqV] using q
   . rintro rfl j hj
     have hj':=ybh.mp hj
     simp [List.getD,hj',eqV]
 . rw [show (a.length==b.length)=false by simpa using hl,ydv]
   exact (decide_eq_false fun e=>hl (by rw [e])).symm
theorem qrc (w:Str) (ys:List Str):inV (.str w) (sV ys)=decide (w∈ys):=by
 unfold inV
 rw [yav,ybj,decide_eq_true_eq]
 constructor
 . rintro ⟨x,hx,e⟩
   obtain ⟨z,hz,rfl⟩:=ybn.mp hx
   have:z=w:=by simpa [eqV] using e
   exact this▸hz
 . intro h
   exact ⟨.str w,ybn.mpr ⟨w,h,rfl⟩,by simp [eqV]⟩
theorem qaK (ys:List Str):(sV ys).length=ys.length:=ycj _
theorem qcv {ys:List Str} {i:Nat} {w:Str} (h:ys[i]?=some w):atI (sV ys) (i:Int)=some (.str w):=qcG (by rw [ydf,h];rfl)
theorem qld {M:Nat}:∀{ys:List Str},(∀y∈ys,y.length<=M)->(ys.map (·.length)).sum<=ys.length*M
 | [],_=>ybv _
 | y::ys,h=>by
   rw [ych,List.sum_cons,yea,Nat.add_mul,yfl]
   have h1:=h y ybb
   have h2:=qld (M:=M) (ys:=ys) fun z hz=>h z (ybe _ hz)
   omega
theorem qbX {M N:Nat} {ys:List Str} {sep:Str} (h:∀y∈ys,y.length<=M) (hn:ys.length<=N) (hs:sep.length<=1) (hM:N*(M+1)<=16777216):(ys.map (·.length)).sum+ys.length*sep.length<=16777216:=by
 have h1:=qld h
 have h2:ys.length*sep.length<=ys.length*1:=Nat.mul_le_mul_left _ hs
 have h3:ys.length*(M+1)<=N*(M+1):=Nat.mul_le_mul_right _ hn
 rw [Nat.mul_add] at h3
 omega
theorem qg2 (v:Nat->Str):∀i (w:Str),w∈qco v i->∃j,j<i/\w=v j
 | 0,w,h=>by cases h
 | i+1,w,h=>by
   have h:w∈if (qco v i).any (·==v i) then qco v i else qco v i++[v i]:=h
   split at h
   . obtain ⟨j,h1,h2⟩:=qg2 v i w h
     exact ⟨j,by omega,h2⟩
   . rcases yat.mp h with z | z
     . obtain ⟨j,h1,h2⟩:=qg2 v i w z
       exact ⟨j,by omega,h2⟩
     . exact ⟨i,by omega,ydi.mp z⟩
theorem qqK {ys:List Str} (h:ys.Nodup):cnt ys=ys.length:=by
 have all:∀i,i<=ys.length->(qco (fun i=>ys.getD i Str.empty) i).length=i:=by
   intro i
   induction i with
   | zero=>intro _;rfl
   | succ i ih =>
     intro hi
     rw [qdJ,if_neg,ih (by omega)]
     intro z
     obtain ⟨w,hw,e⟩:=ybj.mp z
     obtain ⟨j,hj,rfl⟩:=qg2 _ i w hw
     have e:ys.getD j Str.empty=ys.getD i Str.empty:=by simpa using e
     rw [yey,yey,ydc (by omega),ydc (by omega)] at e
     have:=(ydr h).mp (show ys[j]=ys[i] from e)
     omega
 exact all ys.length (yax _)
def tx (c:Nat) (ys:List Str):Str:=⟨((ys.map fun y=>c::Tx.sg y).flatten).toArray⟩
theorem qrC {m a:Nat} (hm:m<=8) (ha:a<2^m):Fam.nms m a=Fam.nms 8 a:=by
 obtain ⟨d,e⟩:∃d,8=m+d:=⟨8-m,by omega⟩
 rw [show Fam.nms 8 a=Fam.nms (m+d) a from by rw [<-e]]
 unfold Fam.nms
 rw [List.range_add,yau]
 have:((List.range d).map (m + ·)).filter (fun k=>a.testBit k)=[]:=by
   rw [yfn]
   intro k hk
   obtain ⟨j,_,rfl⟩:=ybn.mp hk
   rw [yad (yae ha (yaf (by decide) (ycf m j)))]
   simp
 rw [this,yda]
end L2
namespace L2
open PySem PySem.Spec PyProof.Rows
abbrev abc:Str := "abcdefghijklmnopqrstuvwxyz"
theorem qkD:∀i,i<26->abc.cps[i]?=some (97+i):=by decide +kernel
theorem qiZ:abc.length=26:=by decide +kernel
def Ls (z:Str):Prop:=∀c∈Tx.sg z,97<=c/\c<=122
theorem qgh {α:Type} (L:List α) (g:α->Str):L.map (fun k=>V.str (g k))=sV (L.map g):=by
 show _=List.map V.str (List.map _ _)
 rw [ydg]
 rfl
theorem qja:∀ys:List Str,Tx.sg (Str.join ⟨#[]⟩ ys)=(ys.map Tx.sg).flatten
 | []=>rfl
 | [x]=>by simp [Str.join]
 | x::y::r=>by
   show Tx.sg (x++⟨#[]⟩++Str.join ⟨#[]⟩ (y::r))=_
   rw [Tx.sg_app,Tx.sg_app,qja (y::r),ych,yfo]
   simp [Tx.sg]
theorem qdL (ys:List Str):Tx.sg (Txt.join ("" : Str) ys)=(ys.map Tx.sg).flatten:=by
 rw [Tx.lit_empty,show Txt.join ⟨#[]⟩ ys=Str.join ⟨#[]⟩ ys from StrLaws.glued_eq_join _ _,qja]
theorem qqq {ys:List Str} (h:∀y∈ys,∃c,y=⟨#[c]⟩/\97<=c/\c<=122):(Txt.join ("" : Str) ys).length=ys.length/\Ls (Txt.join ("" : Str) ys):=by
 constructor
 . rw [<-Tx.len_sg,qdL]
   induction ys with
   | nil=>rfl
   | cons y ys ih =>
     obtain ⟨c,rfl,_⟩:=h y ybb
     rw [ych,yfo,ycm,ih fun z hz=>h z (ybe _ hz),yea]
     show 1+ys.length=ys.length+1
     omega
 . intro c hc
   rw [qdL] at hc
   obtain ⟨l,hl,hc⟩:=yfp.mp hc
   obtain ⟨y,hy,rfl⟩:=ybn.mp hl
   obtain ⟨d,rfl,h1,h2⟩:=h y hy
   rw [show c=d from by simpa [Tx.sg] using hc]
   exact ⟨h1,h2⟩
theorem qfd {z:Str} {lo hi:Option Int}:∀c∈Tx.sg (Txt.slice z lo hi),c∈Tx.sg z:=by
 intro c hc
 unfold Txt.slice at hc
 split at hc
 . exact hc
 . have hc:c∈(Builtin.Str.strSliceIndices lo hi 1 z.length).filterMap (z.cps[·]?):=by simpa [Tx.sg] using hc
   obtain ⟨i,_,e⟩:=yci.mp hc
   have:(Tx.sg z)[i]?=some c:=by simpa [Tx.sg] using e
   exact ydk this
theorem qjf {z:Str} (h:Ls z) {lo hi:Option Int}:Ls (Txt.slice z lo hi):=fun c hc=>h c (qfd c hc)
theorem qrI {z:Str} {j:Nat} (h:j<=z.length):(Txt.slice z none (some (j:Int))).length=j:=by
 have:=beq_iff_eq.mp (slice_closes_to (x:=z) (j:=(j:Int)) ⟨by omega,by rw [show z.cps.toList.length=z.length from Tx.len_sg z];omega⟩)
 rw [this,<-Tx.len_sg]
 show ((z.cps.toList.drop _).take _).length=j
 rw [yee,ybz,show z.cps.toList.length=z.length from Tx.len_sg z]
 simp<;>omega
theorem qm3 {z:Str} {i:Nat} (h:i<=z.length):(Txt.slice z (some (i:Int)) none).length=z.length-i:=by
 rw [slice_from_eq (b:=z.length) (by omega) (by omega) rfl,<-Tx.len_sg]
 show ((z.cps.toList.drop _).take _).length=_
 rw [yee,ybz,show z.cps.toList.length=z.length from Tx.len_sg z]
 simp<;>omega
structure Gd (L:List Str):Prop where
 few:L.length<=8
 wd:∀w∈L,Tx.Wd w
 hd:∃w,L[0]?=some w/\w.length≠4
end L2
namespace Fly
open PySem
structure Left (fs ch:List Addr) (h h':Heap):Prop where
 keep:∀b o,h.get? b=some o->b∉fs->b∉ch->h'.get? b=some o
 slot:∀b o,h.get? b=some o->b∈fs->b∉ch->∃sl,h'.get? b=some { o with slots:=sl }
def At (h:Heap) (e T:Addr) (cls fl:Value):Prop :=
 T≠e/\∃oe vs oT ts,h.get? e=some oe/\oe.cls=cls/\oe.data = .fields vs/\vs[1]?=some (.ref T)/\h.get? T=some oT/\oT.data = .fields ts/\ts[3]?=some fl
theorem Left.trans {fs ch:List Addr} {h1 h2 h3:Heap} (a:Left fs ch h1 h2) (b:Left fs ch h2 h3):Left fs ch h1 h3 :=
 ⟨fun x o q n1 n2=>b.keep x o (a.keep x o q n1 n2) n1 n2,fun x o q n1 n2=>by
   obtain ⟨sl,q1⟩:=a.slot x o q n1 n2
   obtain ⟨sl2,q2⟩:=b.slot x _ q1 n1 n2
   exact ⟨sl2,q2⟩⟩
theorem Left.mono {fs fs' ch ch':List Addr} {h h':Heap} (a:Left fs ch h h') (hf:∀b∈fs,b∈fs') (hc:∀b∈ch,b∈ch'):Left fs' ch' h h' :=
 ⟨fun x o q n1 n2=>a.keep x o q (fun z=>n1 (hf x z)) (fun z=>n2 (hc x z)),fun x o q _ n2=>by
   by_cases c:x∈fs
   . exact a.slot x o q c fun z=>n2 (hc x z)
   . exact ⟨o.slots,a.keep x o q c fun z=>n2 (hc x z)⟩⟩
section
variable {M:Model} {A:Around} {E:Value->Shared->Prop} {s:Shared} {base:Heap} {env:Env} {outer:List Env} {L e:Addr}
theorem qqc {oe:Obj} {vs:Array Value} {hd:Value} {nx:Bool} {Q:Unit->Shared->Prop}
   (hA:A.frames=some (env::outer)) (hF:s.heap.FunFrames base (env::outer)) (hL:env.frame=some L) (he:s.heap.get? e=some oe) (hv:oe.data = .fields vs) (hz:1<vs.size)
   (k:∀h' T,s.heap.get? T=none->Left ((env::outer).filterMap (·.frame)) [e] s.heap h'->At h' e T oe.cls (rawInt L)->Q () { s with heap:=h' }) :
   wpAny M A (do let fr <-frameOf env;let pl <-entryPlaceOf L nx;let en <-EntryCells.newEntry hd fr .none (rawInt L) .none pl;setField (.ref e) 1 en) Q E s:=by
 have hef:e∉(env::outer).filterMap (·.frame):=fun z=>by
   obtain ⟨_,o,q,nf⟩:=hF.mem z
   rw [he] at q
   cases q
   exact nf vs hv
 refine wpAny_bind (wpAny_frameOf_fun hA hF hL fun h1 s1=>?_)
 refine wpAny_bind (wpAny_entryPlaceOf fun pl ip=>?_)
 unfold EntryCells.newEntry newFields
 refine wpAny_bind (wpAny_newObj_type ?_ (ip.sizeOk5 _ _ _ _ _))
 have e1:h1.get? e=some oe:=(s1.2.1 e hef).trans he
 generalize gT:({ cls := .type "traceback",dict:=none,data := .fields ([hd,.ref L,.none,rawInt L,.none]++(if pl.isEmpty then List.replicate 6 Value.none else pl)).toArray }:Obj)=oT
 have e2:=ycr (h:=h1) oT e1
 refine wpAny_setField e2 hv hz (k _ h1.objs.size ?_ ?_ ?_)
 . cases q:s.heap.get? h1.objs.size with
   | none=>rfl
   | some o =>
     have:=ycs q
     rw [s1.1] at this
     exact absurd this (ydn _)
 . refine ⟨fun b o q n1 n2=>?_,fun b o q n1 n2=>?_⟩
   . rw [yde _ _ (fun z=>n2 (by rw [<-z];exact .head _))]
     exact ycr _ ((s1.2.1 b n1).trans q)
   . obtain ⟨sl,q1⟩:=s1.2.2 b o q
     refine ⟨sl,?_⟩
     rw [yde _ _ (fun z=>n2 (by rw [<-z];exact .head _))]
     exact ycr _ q1
 . have ne:h1.objs.size≠e:=ycx (ycs e1)
   have d3:=Obj.data_mapFields hv (·.setIfInBounds 1 (Value.ref h1.objs.size))
   refine ⟨ne,_,_,oT,_,ycn (Obj.mapFields (·.setIfInBounds 1 (Value.ref h1.objs.size))) e2 (Obj.isFreed_of_fields d3),Obj.cls_mapFields _ _,d3,by simp [hz],?_,by rw [<-gT],by simp⟩
   rw [yde _ _ (Ne.symm ne)]
   exact ycq h1 (by rw [<-gT];rfl)
theorem lands {T:Addr} {cls fl:Value} {Q:Unit->Shared->Prop} (x:At s.heap e T cls fl) (k:∀h',Left [] [T] s.heap h'->At h' e T cls .none->Q () { s with heap:=h' }) :
   wpAny M A (setFlight (.ref e) none) Q E s:=by
 obtain ⟨ne,oe,vs,oT,ts,he,hc,hv,h1,hT,ht,h3⟩:=x
 have hz:3<ts.size:=(yfq.mp h3).1
 refine wpAny_setFlight_none he hv h1 hT ht hz (k _ ⟨fun b o q _ n=>?_,fun b _ _ z=>absurd z (by simp)⟩ ?_)
 . rw [yde _ _ (fun z=>n (by rw [<-z];exact .head _))]
   exact q
 . refine ⟨ne,oe,vs,_,_,?_,hc,hv,h1,ycn _ hT (Obj.isFreed_of_fields (Obj.data_mapFields ht _)),Obj.data_mapFields ht _,by simp [hz]⟩
   rw [yde _ _ ne]
   exact he
theorem leave1 {oe:Obj} {vs:Array Value} {Q:Unit->Shared->Prop}
   (hA:A.frames=some (env::outer)) (hF:s.heap.FunFrames base (env::outer)) (hL:env.frame=some L) (he:s.heap.get? e=some oe) (hv:oe.data = .fields vs) (h1:vs[1]?=some .none)
   (k:∀h' T,s.heap.get? T=none->Left ((env::outer).filterMap (·.frame)) [e,T] s.heap h'->At h' e T oe.cls .none->Q () { s with heap:=h' }) :
   wpAny M A (leaving env (.ref e)) Q E s:=by
 unfold leaving noteFrame
 simp only [hL]
 refine wpAny_bind (wpAny_bind (wpAny_field he hv h1 ?_))
 rw [if_neg (by decide)]
 refine qqc hA hF hL he hv (yfq.mp h1).1 fun h' T nT l1 a1=>?_
 refine lands (s:={ s with heap:=h' }) a1 fun h2 l2 a2=>k h2 T nT ?_ a2
 exact (l1.mono (fun _ z=>z) (fun b z=>by simp at z ⊢;exact .inl z)).trans (l2.mono (fun _ z=>absurd z (by simp)) (fun b z=>by simp at z ⊢;exact .inr z))
theorem noted {T:Addr} {cls:Value} {Q:Unit->Shared->Prop}
   (hA:A.frames=some (env::outer)) (hF:s.heap.FunFrames base (env::outer)) (hL:env.frame=some L) (x:At s.heap e T cls .none)
   (k:∀h' T2,s.heap.get? T2=none->Left ((env::outer).filterMap (·.frame)) [e,T] s.heap h'->At h' e T2 cls (rawInt L)->Q () { s with heap:=h' }) :
   wpAny M A (noteFrame (.ref e) env) Q E s:=by
 obtain ⟨ne,oe,vs,oT,ts,he,hc,hv,h1,hT,ht,h3⟩:=x
 subst hc
 unfold noteFrame
 simp only [hL]
 refine wpAny_bind (wpAny_field he hv h1 ?_)
 rw [if_pos (show (Value.ref T != Value.none)=true from by simp)]
 refine wpAny_bind (wpAny_field hT ht h3 ?_)
 rw [if_neg (show ¬((Value.none==rawInt L)=true) from by simp [rawInt])]
 refine wpAny_bind (wpAny_setField hT ht (yfq.mp h3).1 ?_)
 generalize gh:s.heap.update T (Obj.mapFields (·.setIfInBounds 3 Value.none))=h2
 have ot:∀b,b≠T->h2.get? b=s.heap.get? b:=fun b hb=>by rw [<-gh];exact yde _ _ (Ne.symm hb)
 have ntT:∀b o,s.heap.get? b=some o->(∀vs,o.data ≠ .fields vs)->b≠T:=fun b o q nf z=>by
   rw [z,hT] at q
   cases q
   exact nf ts ht
 refine qqc (s:={ s with heap:=h2 }) hA (hF.of_keeps fun b o q nf=>⟨o,(ot b (ntT b o q nf)).trans q,rfl⟩) hL ((ot e (Ne.symm ne)).trans he) hv (yfq.mp h1).1 fun h' T2 n2 l a=>k h' T2 ?_ ⟨fun b o q n1 n3=>?_,fun b o q n1 n3=>?_⟩ a
 . cases q:s.heap.get? T2 with
   | none=>rfl
   | some o =>
     by_cases c:T2=T
     . rw [c] at n2
       rw [show ({ s with heap:=h2 }:Shared).heap=h2 from rfl,<-gh,ycn _ hT (Obj.isFreed_of_fields (Obj.data_mapFields ht _))] at n2
       cases n2
     . have:=(ot T2 c).trans q
       rw [show h2.get? T2=none from n2] at this
       cases this
 . simp only [ybd,ycw,or_false,not_or] at n3
   exact l.keep b o ((ot b n3.2).trans q) n1 (by simpa using n3.1)
 . simp only [ybd,ycw,or_false,not_or] at n3
   exact l.slot b o ((ot b n3.2).trans q) n1 (by simpa using n3.1)
theorem leave2 {T:Addr} {cls:Value} {Q:Unit->Shared->Prop}
   (hA:A.frames=some (env::outer)) (hF:s.heap.FunFrames base (env::outer)) (hL:env.frame=some L) (x:At s.heap e T cls .none)
   (k:∀h' T2,s.heap.get? T2=none->Left ((env::outer).filterMap (·.frame)) [e,T,T2] s.heap h'->At h' e T2 cls .none->Q () { s with heap:=h' }) :
   wpAny M A (leaving env (.ref e)) Q E s:=by
 unfold leaving
 refine wpAny_bind (noted hA hF hL x fun h' T2 nT l1 a1=>?_)
 refine lands (s:={ s with heap:=h' }) a1 fun h2 l2 a2=>k h2 T2 nT ?_ a2
 exact (l1.mono (fun _ z=>z) (fun b z=>by simp at z ⊢;rcases z with z | z<;>simp [z])).trans (l2.mono (fun _ z=>absurd z (by simp)) (fun b z=>by simp at z ⊢;simp [z]))
end
end Fly
namespace Fly
open PySem
abbrev Lk {α:Type} (h:Heap) (t:Sem α) (r:α):Prop:=∀{M:Model} {A:Around} {E:Value->Shared->Prop} {g:Array GenState} {d:Drawn} {tk:Nat} {os:OsState} {Q:α->Shared->Prop},Q r ⟨h,g,d,tk,os⟩->wpAny M A t Q E ⟨h,g,d,tk,os⟩
structure Cl (h:Heap) (C:Addr):Prop where
 ga:Lk h (typeLookup (.ref C) "__getattribute__") (some (.builtin "BaseException.__getattribute__"))
 gt:Lk h (typeLookup (.ref C) "__getattr__") none
 cl:Lk h (typeLookup (.ref C) "__class__") (some (.builtin "object.__class__"))
 be:Lk h (isSubtype (.ref C) (.type "BaseException")) true
 ob:Lk h (isSubtype (.ref C) (.type "object")) true
section
variable {prog:Program} {w:World} {A:Around} {E:Value->Shared->Prop} {h:Heap} {g:Array GenState} {d:Drawn} {t:Nat} {os:OsState} {a C:Addr} {o:Obj}
theorem qpC {R:Result->Shared->Prop} (c:Cl h C) (hx:h.get? a=some o) (hc:o.cls = .ref C) (hq:R (.ok (.ret (.ref C))) ⟨h,g,d,t,os⟩) :
   codeAny (model prog w) A (.call (.builtin "getset_descriptor.__get__") ⟨[.builtin "object.__class__",.ref a,.ref C],[]⟩) R ⟨h,g,d,t,os⟩:=by
 have k5:(⟨h,g,d,t,os⟩:Shared).TypeIs (.builtin "object.__class__") "getset_descriptor" := F.typeOf_object_class
 have c8:Lk h (isSubtype (.ref C) (.type (".".intercalate ("object.__class__".cutAt '.').dropLast))) true:=by
   rw [F.owner_object_class]
   intro M A E g d tk os Q z
   exact c.ob z
 refine codeAny_call_builtin F.slot_gs_get.plain F.entry_gs_get (F.slot_gs_get.check _ _ _ _ _ _ _ _ k5 (F.args_gs_get _ _ _) ?_)
 repeat (any_goals (first | assumption | (with_reducible refine wpAny_loadPart_at hx ?_;rw [hc]) | with_reducible refine c8 ?_ | wp_step))
 refine ⟨Code.quiet_builtin _ (by decide +kernel),codeAny_builtin F.entry_object_class ?_⟩
 repeat (any_goals (first | assumption | (with_reducible refine wpAny_loadPart_at hx ?_;rw [hc]) | wp_step))
theorem qmC {tk:Tok} {Q:Fin->Shared->Prop} (c:Cl h C) (hx:h.get? a=some o) (hc:o.cls = .ref C) (hq:Q (.done (.ret (.ref C))) ⟨h,g,d,t,os⟩) :
   wpAny (model prog w) A (Builtin.«object.__getattribute__» ⟨[.ref a,.str "__class__" tk],[]⟩) Q E ⟨h,g,d,t,os⟩:=by
 have k5:(⟨h,g,d,t,os⟩:Shared).TypeIs (.builtin "object.__class__") "getset_descriptor" := F.typeOf_object_class
 have k6:=F.typeOf_object_class
 have k7:=F.slot_gs_get.lookup
 have k8:=F.slot_gs_set.lookup
 repeat (any_goals (first | assumption | (with_reducible refine wpAny_loadPart_at hx ?_;rw [hc]) | with_reducible refine c.cl ?_ | wp_step))
 refine qpC c hx hc ?_
 repeat (any_goals (first | assumption | wp_step))
theorem qlL {M:Model} {nv:Value} {Q:Unit->Shared->Prop} (c:Cl h C) (hx:h.get? a=some o) (hc:o.cls = .ref C) (hq:Q () ⟨h,g,d,t,os⟩) :
   wpAny M A (checkBuiltinCall "BaseException.__getattribute__" ⟨[.ref a,nv],[]⟩) Q E ⟨h,g,d,t,os⟩:=by
 have k1:builtinKind "BaseException.__getattribute__" = some .slot:=by decide +kernel
 have k2:splitId "BaseException.__getattribute__" = some ("BaseException", "__getattribute__"):=by decide +kernel
 have k3:=F.args_bexc_ga (.ref a) nv
 simp only [checkBuiltinCall,k1,k2]
 refine wpAny_bind ?_
 unfold isInstance
 repeat (first | (with_reducible refine wpAny_loadPart_at hx ?_;rw [hc]) | with_reducible refine c.be ?_ | wp_step)
 exact hq
theorem qmI {tk:Tok} {R:Result->Shared->Prop} (c:Cl h C) (hx:h.get? a=some o) (hc:o.cls = .ref C) (hq:R (.ok (.ret (.ref C))) ⟨h,g,d,t,os⟩) :
   codeAny (model prog w) A (.call (.builtin "BaseException.__getattribute__") ⟨[.ref a,.str "__class__" tk],[]⟩) R ⟨h,g,d,t,os⟩ :=
 codeAny_call_builtin F.attr_ValueError.ga.plain F.entry_bexc_ga (qlL c hx hc (qmC c hx hc hq))
theorem qsb {tk:Tok} {Q:Value->Shared->Prop} (c:Cl h C) (hx:h.get? a=some o) (hc:o.cls = .ref C) (hq:Q (.ref C) ⟨h,g,d,t,os⟩) :
   wpAny (model prog w) A (getAttrBy (.ref a) (.str "__class__" tk) false) Q E ⟨h,g,d,t,os⟩:=by
 have k3:=F.attr_ValueError.ga.bind (.ref a)
 have k4:(Value.builtin "BaseException.__getattribute__" == Value.builtin "object.__getattribute__")=false:=by decide +kernel
 have k5:(onTheHeap (Value.ref C)&&Value.builtin "BaseException.__getattribute__" == Value.builtin "object.__getattribute__")=false:=by rw [k4];rfl
 repeat (any_goals (first | assumption | (with_reducible refine wpAny_loadPart_at hx ?_;rw [hc]) | with_reducible refine c.ga ?_ | with_reducible refine c.gt ?_ | wp_step))
 refine qmI c hx hc ?_
 repeat (any_goals (first | assumption | wp_step))
theorem cls_attr {Q:Option Value->Shared->Prop} (c:Cl h C) (hx:h.get? a=some o) (hc:o.cls = .ref C) (hq:Q (some (.ref C)) ⟨h,g,d,t+1,os⟩) :
   wpAny (model prog w) A (getAttr? (.ref a) "__class__") Q E ⟨h,g,d,t,os⟩:=by
 unfold getAttr? getAttrBy?
 repeat (any_goals (first | assumption | with_reducible apply qsb c hx hc | wp_step))
theorem matches_own {M:Model} {B:Addr} {cdB:ClassData} {ddB:Option Addr} {slB:Array (Option Value)} {b:Bool} {Q:Bool->Shared->Prop} (hx:h.get? a=some o) (hc:o.cls = .ref C)
   (hB:h.get? B=some { cls := .type "type",dict:=ddB,data := .cls cdB,slots:=slB })
   (be:Lk h (isSubtype (.ref B) (.type "BaseException")) true) (su:Lk h (isSubtype (.ref C) (.ref B)) b) (hq:Q b ⟨h,g,d,t,os⟩):wpAny M A (excMatches (.ref a) (.ref B)) Q E ⟨h,g,d,t,os⟩:=by
 have k1:=tc_notTuple
 unfold excMatches
 cases b<;>(repeat (first | (with_reducible refine wpAny_loadPart_at hx ?_;rw [hc]) | with_reducible refine wpAny_loadPart_at hB ?_ | with_reducible refine be ?_ | with_reducible refine su ?_ | wp_step))<;>exact hq
end
end Fly
namespace L2
open PySem PySem.Spec PyProof.Rows
section
variable {P:Program} {w:World} {H H':Hp} {h h1 h2:Heap} {fs fs' ch:List Addr}
theorem qbs.some {a:Addr} {o:HO} (x:qbs P w H h a o):∃ob,h.get? a=some ob:=by
 cases o with
 | lst xs=>obtain ⟨_,_,_,_,e⟩:=x;exact ⟨_,e⟩
 | tup xs=>obtain ⟨_,_,_,_,e,_⟩:=x;exact ⟨_,e⟩
 | dK kvs=>obtain ⟨_,_,_,_,o,_,_,e,_⟩:=x;exact ⟨_,e⟩
 | dT kvs=>obtain ⟨_,_,_,_,o,_,_,e,_⟩:=x;exact ⟨_,e⟩
 | set S n=>obtain ⟨o,_,_,_,e,_⟩:=x;exact ⟨_,e⟩
 | ins C dx fs=>obtain ⟨_,_,_,e,_⟩:=x;exact ⟨_,e⟩
 | own y=>exact x
 | xd fs=>obtain ⟨_,⟨_,_,_,e,_⟩,_⟩:=x;exact ⟨_,e⟩
 | rng lo hi=>obtain ⟨_,_,_,e⟩:=x;exact ⟨_,e⟩
 | frz ob u=>obtain ⟨e,_⟩:=x;exact ⟨_,e⟩
 | tbl ps=>exact ⟨_,x⟩
 | met f y=>exact ⟨_,x⟩
 | ext φ=>obtain ⟨_,e,_⟩:=x;exact e
theorem HOk.none_of (x:HOk P w H h) {a:Addr} (e:h.get? a=none):H a=none:=by
 cases q:H a with
 | none=>rfl
 | some o =>
   obtain ⟨ob,z⟩:=(x a o q).some
   rw [e] at z
   cases z
theorem Un.left (u:Un fs [] H H' h h1) (l:Fly.Left fs' ch h1 h2) (hf:∀b o,h.get? b=some o->b∈fs'->b∈fs) (hc:∀b∈ch,h.get? b=none):Un fs [] H H' h h2:=by
 have nc:∀b o,h.get? b=some o->b∉ch:=fun b o q z=>by rw [hc b z] at q;cases q
 refine ⟨fun b o q n n1 n2=>l.keep b o (u.keep b o q n n1 n2) (fun z=>n1 (hf b o q z)) (nc b o q),fun b o q n n1 n2=>?_,u.free,fun b o q n2=>?_,u.tups,u.frzs,u.tbls⟩
 . obtain ⟨sl,q1⟩:=u.slot b o q n n1 n2
   by_cases c:b∈fs'
   . obtain ⟨sl2,q2⟩:=l.slot b _ q1 c (nc b o q)
     exact ⟨sl2,q2⟩
   . exact ⟨sl,l.keep b _ q1 c (nc b o q)⟩
 . obtain ⟨o',q1⟩:=u.there b o q n2
   by_cases c:b∈fs'
   . obtain ⟨sl2,q2⟩:=l.slot b _ q1 c (nc b o q)
     exact ⟨_,q2⟩
   . exact ⟨_,l.keep b _ q1 c (nc b o q)⟩
theorem HOk.left (x:HOk P w H h1) (l:Fly.Left fs' ch h1 h2) (hf:∀b∈fs',H b=none) (hc:∀b∈ch,H b=none):HOk P w H h2:=fun b ob e=>by
 have no:∀c,(c=b\/H c=Option.some (.own b))->H c≠none:=fun c z=>by
   rcases z with rfl | z
   . rw [e];simp
   . rw [z];simp
 exact (x b ob e).stay (fun c v hz q=>l.keep c v q (fun z=>no c hz (hf c z)) fun z=>no c hz (hc c z)) (fun _ q=>q) fun _ _ q=>q
end
def CX1 (P:Program) (w:World):CXT:=fun outer H s E x s'=>∃(e T C:Addr) (H':Hp),x = .ref e/\s'.os=s.os/\AllBare s'.gens/\Un (frs outer) [] H H' s.heap s'.heap/\HOk P w H' s'.heap /\
 s.heap.get? e=none/\s.heap.get? T=none/\H' e=none/\H' T=none/\Fly.At s'.heap e T (.ref C) .none/\1<=s'.toks/\E (.ref C) none H'
section
variable {P:Program} {w:World} {K:PySem.W.Frag} {mg:Str->Option Value} {base:Heap} {N:List Str} {qual:Str} {scope:Scope} {f:Addr} {cd:Value} {A:Around} {outer:List Env} {s0:Shared} {H0:Hp} {E:XK}
 {pins:List (Addr×Obj)} {σ:St} {H:Hp} {s:Shared}
theorem qmZ {e C:Addr} {args:List Value} {h':Heap} (I:Inv (qg6 (CX1 P w) P w K mg base N qual scope f cd A outer s0 H0 E) pins σ H s) (mk:Heap.MadeExcOf s.heap h' e (.ref C) args) (q:E (.ref C) none H) :
   (qg6 (CX1 P w) P w K mg base N qual scope f cd A outer s0 H0 E).xe (.ref e) { s with heap:=h' }:=by
 obtain ⟨t,he,nt,ht⟩:=mk.there
 have up:∀b o,s0.heap.get? b=some o->∃o',s.heap.get? b=some o':=fun b o z=>I.base.there b o z (by show b∉[];simp)
 have no:∀b,s.heap.get? b=none->s0.heap.get? b=none:=fun b z=>by
   cases c:s0.heap.get? b with
   | none=>rfl
   | some o =>
     obtain ⟨o',c2⟩:=up b o c
     rw [z] at c2
     cases c2
 have hk:HOk P w H h':=I.hok.kept mk.keeps
 refine Fly.leave1 (s:={ s with heap:=h' }) (base:=base) I.ok.frames (I.stack.of_keeps fun b o z _=>⟨o,mk.keeps b o z,rfl⟩) rfl he rfl rfl fun h2 T nT l a=>?_
 have nT':s.heap.get? T=none:=by
   cases c:s.heap.get? T with
   | none=>rfl
   | some o=>rw [mk.keeps T o c] at nT;cases nT
 have ff:∀b∈frs (qg6 (CX1 P w) P w K mg base N qual scope f cd A outer s0 H0 E).stack,H b=none:=I.stkFree
 have cc:∀b∈[e,T],H b=none:=fun b z=>by
   simp only [ybd,ycw,or_false] at z
   rcases z with rfl | rfl
   . exact I.hok.none_of mk.new
   . exact I.hok.none_of nT'
 refine ⟨e,T,C,H,rfl,I.os,I.bare,?_,hk.left l ff cc,no e mk.new,no T nT',I.hok.none_of mk.new,I.hok.none_of nT',a,I.tk,q⟩
 have u1:Un (frs outer) [] H0 H s0.heap h':=Un.left I.base (fs':=[]) (ch:=[]) ⟨fun b o z _ _=>mk.keeps b o z,fun b _ _ z=>absurd z (by simp)⟩ (fun _ _ _ z=>absurd z (by simp)) (fun _ z=>absurd z (by simp))
 refine u1.left l (fun b o z m=>?_) (fun b z=>?_)
 . rcases ybd.mp (I.stkSub b m) with c | c
   . have l1:=ycs z
     have l2:s0.heap.objs.size<=_:=I.ok.above
     rw [c] at l1
     exact absurd l1 (ybu.mpr l2)
   . exact c
 . simp only [ybd,ycw,or_false] at z
   rcases z with rfl | rfl
   . exact no _ mk.new
   . exact no _ nT'
theorem qbF:qch (CX1 P w) (qg6 (CX1 P w) P w K mg base N qual scope f cd A outer s0 H0 E) E:=by
 rintro pins σ H s x s' I ⟨e,T,C,H',rfl,os,bare,U,hok,n1,n2,n3,n4,a,htk,q⟩
 have J:=I.call' os U hok bare (ht:=htk) (ch:=[]) fun b z=>absurd z (by simp)
 have no:∀b,s.heap.get? b=none->s0.heap.get? b=none:=fun b z=>by
   cases c:s0.heap.get? b with
   | none=>rfl
   | some o =>
     obtain ⟨o',c2⟩:=I.base.there b o c (by show b∉[];simp)
     rw [z] at c2
     cases c2
 have no':∀b,s'.heap.get? b=none->s0.heap.get? b=none:=fun b z=>by
   cases c:s0.heap.get? b with
   | none=>rfl
   | some o =>
     obtain ⟨o',c2⟩:=J.base.there b o c (by show b∉[];simp)
     rw [z] at c2
     cases c2
 refine Fly.leave2 (base:=base) J.ok.frames J.stack rfl a fun h2 T2 nT l a2=>?_
 have cc:∀b∈[e,T,T2],s0.heap.get? b=none/\H' b=none:=fun b z=>by
   simp only [ybd,ycw,or_false] at z
   rcases z with rfl | rfl | rfl
   . exact ⟨no _ n1,n3⟩
   . exact ⟨no _ n2,n4⟩
   . exact ⟨no' _ nT,hok.none_of nT⟩
 refine ⟨e,T2,C,H',rfl,J.os,J.bare,?_,hok.left l J.stkFree fun b z=>(cc b z).2,no e n1,no' T2 nT,n3,hok.none_of nT,a2,J.tk,q⟩
 refine Un.left J.base l (fun b o z m=>?_) fun b z=>(cc b z).1
 rcases ybd.mp (J.stkSub b m) with c | c
 . have l1:=ycs z
   have l2:s0.heap.objs.size<=_:=J.ok.above
   rw [c] at l1
   exact absurd l1 (ybu.mpr l2)
 . exact c
end
theorem qfn {K:PySem.W.Frag} {h:Heap} {C:Addr} {bmB:List Value} {newId:String} (kin:K.In h) (z:PySem.W.excIn K C bmB newId=true) :
   ∃bm ns nm qn bs hdct sn sub ab col dd k0 k1 k2 k3 k5 mN,h.get? C=some (excClassObj nm qn C ns bs bm hdct sn sub ab col dd k0 k1 k2 k3 k5 newId)/\h.Ns ns mN/\mN "__init__" = none/\OwnTail h bmB bm:=by
 unfold PySem.W.excIn at z
 split at z
 next dd cd sl at1 =>
   split at z
   next C2 bm k0 k1 k2 k3 nn k5 em es =>
     simp only [yab,beq_iff_eq,yaw] at z
     obtain ⟨⟨⟨⟨⟨z1,z2⟩,z3⟩,z4⟩,z5⟩,z6⟩:=z
     subst z1
     subst z2
     obtain ⟨nm,bs,mro,ns,qn,hd,sn,sub,ab,col,del⟩:=cd
     dsimp only at em z3 z5 z6
     subst em
     subst z3
     obtain ⟨ll⟩:=sl
     dsimp only at es
     subst es
     exact ⟨bm,ns,nm,qn,bs,hd,sn,sub,ab,col,dd,k0,k1,k2,k3,k5,_,kin _ _ at1,.of_isNs (PySem.W.isNs_of_in kin z5),PySem.W.nsMap_none_of_in kin z5 z6,PySem.W.tail_of_in kin z4⟩
   next=>cases z
 next=>cases z
section
variable {X:Cx}
def ql5 (C:Addr) (E:XK) (te:TE):TS:=fun _ σ H=>te σ H fun _ H1=>E (.ref C) none H1
def qoF (X:Cx) (E:XK):Prop:=∀(pins:List (Addr×Obj)) (σ:St) (H:Hp) (s:Shared) (e C:Addr) (args:List Value) (h':Heap),Inv X pins σ H s->Heap.MadeExcOf s.heap h' e (.ref C) args->E (.ref C) none H->X.xe (.ref e) { s with heap:=h' }
theorem qaU {P:Program} {w:World} {K:PySem.W.Frag} {mg:Str->Option Value} {base:Heap} {N:List Str} {qual:Str} {scope:Scope} {f:Addr} {cd:Value} {A:Around} {outer:List Env} {s0:Shared} {H0:Hp} {E:XK} :
 qoF (qg6 (CX1 P w) P w K mg base N qual scope f cd A outer s0 H0 E) E:=fun _ _ _ _ _ _ _ _ I mk q=>qmZ I mk q
theorem qbe {x:Str} {C:Addr} {e:Expr} {te:TE} {E:XK} {np cpos pos:Pos} {bmB:List Value} {B newId initId:String} (hg:Gl X x) (hm:X.mg x=some (.ref C)) (hx:PySem.W.excIn X.K C bmB newId=true)
   (FB:ExcBaseFacts B newId initId bmB) (hc:X.calm=true) (th:qoF X E) (he:PE X e te) (hs:starEach [e] X.env=(false,eval e X.env)::starEach [] X.env:=by rfl) (hdb:(x==("__debug__" : Str))=false:=by decide) :
   PS X (.Raise (some (.Call (.Name x np) [e] [] cpos)) none pos) (ql5 C E te):=by
 intro pins s σ H D I h
 obtain ⟨bm,ns,nm,qn,bs,hdct,sn,sub,ab,col,dd,k0,k1,k2,k3,k5,mN,o1,o2,o3,o4⟩:=qfn I.ok.mod.kin hx
 refine wpAny_Raise_call_subT (C:=C) (nm:=nm) (q:=qn) (N:=ns) (bs:=bs) (bm:=bm) (hdct:=hdct) (sn:=sn) (sub:=sub) (ab:=ab) (col:=col) (dd:=dd) (k0:=k0) (k1:=k1) (k2:=k2) (k3:=k3) (k5:=k5) FB (mN:=mN) (o4.hasType FB.hasBase) (I.ok.hd hc) (by rw [hs];rfl) o3 (qdm I hg hm ⟨rfl,?_⟩ hdb)
 rw [hs]
 refine Calls.evalArgs_plain (Calls.spliced_cons (thn (he pins s σ H _ I h) fun v s1 ⟨y,H1,I1,r1,q1⟩=>Calls.spliced_nil ?_))
 exact ⟨rfl,by show 1<=sizeLine;decide,I1.bk _ _ o1,o2.keeps I1.bk,o4.keeps I1.bk,fun h' e mk=>th pins σ H1 s1 e C _ h' I1 mk q1⟩
abbrev Cx.pinned (X:Cx) (ps:List (Addr×Obj)):Cx:={ X with pn:=X.pn++ps }
abbrev Cx.within (X:Cx) (ps:List (Addr×Obj)) (e:Addr):Cx:={ X with pn:=X.pn++ps,A:=X.A.mark (some (.ref e)),calm:=false,xe:=fun _ _=>False }
variable {pins ps:List (Addr×Obj)} {σ:St} {H:Hp} {s:Shared} {e:Addr}
theorem Inv.pin1 (I:Inv X pins σ H s):Inv (X.pinned pins) [] σ H s :=
 ⟨⟨I.ok.mod,I.ok.kind,I.ok.glob,I.ok.blt,I.ok.above,I.ok.inj,I.ok.has,I.ok.cab,I.ok.hd,I.ok.frames,I.ok.stk,I.ok.exf,I.ok.bs,I.ok.bsz,I.ok.noex,I.ok.exfs,I.ok.funs,I.ok.frf⟩,I.os,I.bare,I.base,I.loc,I.cell,I.free,I.freeC,fun p hp=>I.pin p (by simpa using hp),I.hok,I.len,I.tk⟩
theorem Inv.unpin1 (I:Inv (X.pinned pins) ps σ H s):Inv X pins σ H s :=
 ⟨⟨I.ok.mod,I.ok.kind,I.ok.glob,I.ok.blt,I.ok.above,I.ok.inj,I.ok.has,I.ok.cab,I.ok.hd,I.ok.frames,I.ok.stk,I.ok.exf,I.ok.bs,I.ok.bsz,I.ok.noex,I.ok.exfs,I.ok.funs,I.ok.frf⟩,I.os,I.bare,I.base,I.loc,I.cell,I.free,I.freeC,fun p hp=>I.pin p (yas _ hp),I.hok,I.len,I.tk⟩
theorem Inv.within (I:Inv (X.pinned pins) ps σ H s):Inv (X.within pins e) [] σ H s :=
 ⟨⟨I.ok.mod,I.ok.kind,I.ok.glob,I.ok.blt,I.ok.above,I.ok.inj,I.ok.has,I.ok.cab,fun z=>Bool.noConfusion z,I.ok.frames,I.ok.stk,I.ok.exf,I.ok.bs,I.ok.bsz,I.ok.noex,I.ok.exfs,I.ok.funs,I.ok.frf⟩,I.os,I.bare,I.base,I.loc,I.cell,I.free,I.freeC,fun p hp=>I.pin p (yas _ (by simpa using hp)),I.hok,I.len,I.tk⟩
theorem Inv.outside (I:Inv (X.within pins e) ps σ H s) (ok:X.Ok):Inv X pins σ H s :=
 ⟨ok,I.os,I.bare,I.base,I.loc,I.cell,I.free,I.freeC,fun p hp=>I.pin p (yas _ hp),I.hok,I.len,I.tk⟩
theorem SP.unpinned {D:qeY} {f:Flow} {xe:Value->Shared->Prop} (h:SP ((X.pinned pins).wish xe) ps D f s):SP X pins D f s:=by
 cases f with
 | next=>obtain ⟨σ',H',I,q⟩:=h;exact ⟨σ',H',I.unwish.unpin1,q⟩
 | brk=>obtain ⟨σ',H',I,q⟩:=h;exact ⟨σ',H',I.unwish.unpin1,q⟩
 | cont=>obtain ⟨σ',H',I,q⟩:=h;exact ⟨σ',H',I.unwish.unpin1,q⟩
 | ret u=>obtain ⟨v,σ',H',I,r,q⟩:=h;exact ⟨v,σ',H',I.unwish.unpin1,r,q⟩
theorem qcX {M:Model} {A:Around} {E:Value->Shared->Prop} {i:Nat} {n:Str} {pos:Pos} {Q:Unit->Shared->Prop} (I:Inv X pins σ H s) (hN:X.N.Nodup) (hi:X.N[i]?=some n) (hk:X.env.scope.names.lookup n=some .local)
   (q:∀s',Inv X pins (σ.set i none) H s'->Q () s'):wpAny M A (do bindName X.env n .none;unbindBehindTheSuite X.env n pos) Q E s:=by
 obtain ⟨m,hn,hl⟩:=id I.loc
 have hcls:(X.env.scope.kind == .class||(X.env.scope.kind == .module&&X.env.locals != X.env.globals))=false:=by rw [I.ok.kind];rfl
 have cne:=I.cne
 have below:∀b o,X.s₀.heap.get? b=some o->b≠X.env.locals:=fun b o z=>ycu (yae (ycs z) I.ok.above)
 refine wpAny_nameGoes_keeps hk hn hcls fun h' v hn' hs=>q _ ?_
 refine ⟨I.ok,I.os,I.bare,⟨fun b o z n1 n2 n3=>(hs.2 b (below b o z)).trans (I.base.keep b o z n1 n2 n3),fun b o z n1 n2 n3=>?_,I.base.free,fun b o z n3=>?_,I.base.tups,I.base.frzs,I.base.tbls⟩,⟨_,hn',fun j y v' e1 e2 e3=>?_⟩,fun y c z=>?_,I.free,I.freeC,fun p hp=>?_,fun b ob z=>?_,by simpa using I.len,by first | exact I.tk | exact ydo 1 _ | exact ybt I.tk (ycf _ _)⟩
 . obtain ⟨sl,z1⟩:=I.base.slot b o z n1 n2 n3
   exact ⟨sl,(hs.2 b (below b o z)).trans z1⟩
 . obtain ⟨o',z1⟩:=I.base.there b o z n3
   exact ⟨o',(hs.2 b (below b o z)).trans z1⟩
 . by_cases c:j=i
   . subst c
     rw [List.getElem?_set] at e2
     split at e2
     . split at e2<;>cases e2
     . exact absurd rfl ‹_›
   . rw [ydt (Ne.symm c)] at e2
     obtain ⟨u',r',l⟩:=hl j y v' e1 e2 e3
     refine ⟨u',r',?_⟩
     rcases l with ⟨k1,k2⟩ | ⟨k1,c2,k2,k3⟩
     . refine .inl ⟨k1,?_⟩
       have:y≠n:=fun z=>c (qgF hN e1 (z▸hi))
       simp [this,k2]
     . exact .inr ⟨k1,c2,k2,k3.sameBut hs (cne y c2 k2)⟩
 . obtain ⟨w',z1⟩:=I.cell y c z
   exact ⟨w',z1.sameBut hs (cne y c z)⟩
 . obtain ⟨z1,z2,z3,z4,z5⟩:=I.pin p hp
   exact ⟨(hs.2 p.1 z3).trans z1,z2,z3,z4,z5⟩
 . refine (I.hok b ob z).stay (fun c v hz q=>(hs.2 c ?_).trans q) (fun _ q=>q) fun _ _ q=>q
   rintro rfl
   have fr:=I.free
   rcases hz with hz | hz
   . rw [<-hz,fr] at z;cases z
   . rw [fr] at hz;cases hz
abbrev XO (e C:Addr):HO := .ext fun h=>∃o,h.get? e=some o/\o.cls = .ref C
def qt6 (i:Nat) (C:Addr) (tb:XK->TS) (th:TS):TS:=fun D σ H =>
 tb (fun c _ H'=>c = .ref C/\∀(e:Addr) (σ':St),σ'.length=σ.length->H' e=none ->
   th { nx:=fun σ2 H2=>D.nx (σ2.set i none) H2,rt:=D.rt,bk:=fun σ2 H2=>D.bk (σ2.set i none) H2,ct:=fun σ2 H2=>D.ct (σ2.set i none) H2 } (σ'.set i (some (.ref e))) (upd H' e (XO e C))) D σ H
theorem Fly.lk {α:Type} {h:Heap} {t:Sem α} {r:α} (x:∀M,PySem.W.Looks M h t r):Fly.Lk h t r:=fun z=>(x _).at z
theorem qtE {i:Nat} {n x:Str} {body suite:List Stmt} {b0:Stmt} {B C:Addr} {tb:XK->TS} {th:TS} {np hp pos:Pos} {bmB:List Value} {newId:String}
   (hN:X.N.Nodup) (hi:X.N[i]?=some n) (hl:X.env.scope.names.lookup n=some .local) (st:X.stack=X.env::X.outer) (hf:X.env.frame=some X.env.locals)
   (hg:Gl X x) (hm:X.mg x=some (.ref B)) (xB:PySem.W.excIn X.K B bmB newId=true) (be:PySem.W.subIn X.K (.ref B) (.type "BaseException")=some true) (su:PySem.W.subIn X.K (.ref C) (.ref B)=some true)
   (hb:∀(pins:List (Addr×Obj)) (xe:Value->Shared->Prop) (E:XK),qch (CX1 X.prog X.w) ((X.pinned pins).wish xe) E->PSs ((X.pinned pins).wish xe) body (tb E))
   (hs:∀(pins:List (Addr×Obj)) (e:Addr),PSs (X.within pins e) (b0::suite) th) (hdb:(x==("__debug__" : Str))=false:=by decide) :
   PS X (.Try body [.ExceptHandler (some (.Name x np)) (some n) (b0::suite) hp] [] [] pos) (qt6 i C tb th):=by
 intro pins s σ H D I h
 refine wpAny_Try_except ?_
 let E1:XK:=fun c _ H'=>c = .ref C/\∀(e:Addr) (σ':St),σ'.length=σ.length->H' e=none ->
   th { nx:=fun σ2 H2=>D.nx (σ2.set i none) H2,rt:=D.rt,bk:=fun σ2 H2=>D.bk (σ2.set i none) H2,ct:=fun σ2 H2=>D.ct (σ2.set i none) H2 } (σ'.set i (some (.ref e))) (upd H' e (XO e C))
 let xe1:Value->Shared->Prop:=fun x s'=>∃p1 σ1 H1 s1,Inv (X.pinned pins) p1 σ1 H1 s1/\CX1 X.prog X.w X.stack H1 s1 E1 x s'
 have hp1:qch (CX1 X.prog X.w) ((X.pinned pins).wish xe1) E1:=fun p1 σ1 H1 s1 x s' I1 c=>⟨p1,σ1,H1,s1,I1.unwish,c⟩
 refine wpAny_mono (hb pins xe1 E1 hp1 [] s σ H D (I.pin1.wish _) h) (fun f s1 q=>?_) fun x s1 q=>?_
 . have q':=SP.unpinned q
   cases f with
   | next=>exact wpAny_execs_nil q'
   | brk=>exact q'
   | cont=>exact q'
   | ret u=>exact q'
 . obtain ⟨p1,σ1,H1,s2,I1,e,T,C',H',rfl,os,bare,U,hok,n1,n2,n3,n4,a,htk,ec,qh⟩:=q
   cases ec
   have hst:(X.pinned pins).stack=X.env::X.outer:=st
   have J:=I1.call' os U hok bare (ht:=htk) (ch:=[]) fun b z=>absurd z (by simp)
   have no:∀b,s1.heap.get? b=none->s2.heap.get? b=none:=fun b z=>by
     cases c:s2.heap.get? b with
     | none=>rfl
     | some o =>
       obtain ⟨o',c2⟩:=U.there b o c (by simp)
       rw [z] at c2
       cases c2
   refine Fly.noted (base:=X.base) (L:=X.env.locals) (show X.A.frames=_ from st▸I.ok.frames) (show s1.heap.FunFrames X.base (X.env::X.outer) from st▸J.stack) hf a fun h2 T2 nT l2 a2=>?_
   refine Fly.lands (s:={ s1 with heap:=h2 }) a2 fun h3 l3 a3=>?_
   have cc:∀b∈[e,T,T2],s2.heap.get? b=none/\H' b=none:=fun b z=>by
     simp only [ybd,ycw,or_false] at z
     rcases z with rfl | rfl | rfl
     . exact ⟨n1,n3⟩
     . exact ⟨n2,n4⟩
     . exact ⟨no _ nT,hok.none_of nT⟩
   have l2:Fly.Left (frs X.stack) [e,T,T2] s1.heap h2:=by
     rw [st]
     exact l2.mono (fun _ z=>z) fun b z=>by simp at z ⊢;rcases z with z | z<;>simp [z]
   have l3:Fly.Left (frs X.stack) [e,T,T2] h2 h3:=l3.mono (fun _ z=>absurd z (by simp)) fun b z=>by simp at z ⊢;simp [z]
   have l23:=l2.trans l3
   have go:∀{h':Heap} {t':Nat},1<=t'->Fly.Left (frs X.stack) [e,T,T2] s1.heap h'->Inv (X.pinned pins) p1 σ1 H' { s1 with heap:=h',toks:=t' }:=fun {h' t'} ht l =>
     I1.call' (ht:=ht) (s':={ s1 with heap:=h',toks:=t' }) os (U.left l (fun _ _ _ z=>z) fun b z=>(cc b z).1) (hok.left l J.stkFree fun b z=>(cc b z).2) bare (ch:=[]) fun b z=>absurd z (by simp)
   have J3:Inv (X.within pins e) [] σ1 H' { s1 with heap:=h3 }:=(go (t':=s1.toks) htk l23).within
   refine wpAny_handleBy_cons (codeAny_handlers_test (qdm J3 (x:=x) hg hm ?_ hdb)) (by intro z;cases z)
   have kin:=J3.kIn
   obtain ⟨bm,ns,nm,qn,bs,hdct,sn,sub,ab,col,dd,k0,k1,k2,k3,k5,mN,o1,_⟩:=qfn kin xB
   obtain ⟨neT,oe,vs,oT,ts,he,hc,_⟩:=id a3
   refine Fly.matches_own (C:=C) (b:=true) he hc o1 (Fly.lk fun M=>PySem.W.looks_subIn kin be) (Fly.lk fun M=>PySem.W.looks_subIn kin su) ?_
   refine codeAny_handlers_suite_as (Fly.lands (s:={ s1 with heap:=h3 }) a3 fun h4 l4 a4=>?_)
   have l4:Fly.Left (frs X.stack) [e,T,T2] s1.heap h4:=l23.trans (l4.mono (fun _ z=>absurd z (by simp)) fun b z=>by simp at z ⊢;simp [z])
   obtain ⟨_,oe4,_,_,_,he4,hc4,_⟩:=id a4
   have ne1:∀b o,s2.heap.get? b=some o->b≠e:=fun b o z c=>by rw [c,n1] at z;cases z
   have neH:∀b o,H' b=some o->b≠e:=fun b o z c=>by rw [c,n3] at z;cases z
   have U4:=U.left l4 (fun _ _ _ z=>z) fun b z=>(cc b z).1
   have hok4:=hok.left l4 J.stkFree fun b z=>(cc b z).2
   have J5:Inv (X.pinned pins) p1 σ1 (upd H' e (XO e C)) { s1 with heap:=h4 }:=by
     refine I1.call' (ht:=htk) (s':={ s1 with heap:=h4 }) os (H':=upd H' e (XO e C)) ⟨U4.keep,U4.slot,fun b o z m1 m2=>?_,U4.there,fun b xs z=>?_,fun b o u z=>?_,fun b qs z=>?_⟩ (fun b ob z=>?_) bare (ch:=[]) fun b z=>absurd z (by simp)
     . rw [qaq (ne1 b o z)]
       exact U4.free b o z m1 m2
     . have:=U4.tups b xs z
       rw [qaq (neH b _ this)]
       exact this
     . have:=U4.frzs b o u z
       rw [qaq (neH b _ this)]
       exact this
     . obtain ⟨qg9,this⟩:=U4.tbls b qs z
       refine ⟨qg9,?_⟩
       rw [qaq (neH b _ this)]
       exact this
     . by_cases c:b=e
       . subst c
         rw [qai] at z
         cases z
         exact ⟨⟨oe4,he4,hc4⟩,⟨oe4,he4⟩,fun g1 g2 ⟨o,z1,z2⟩ k=>⟨o,k o z1,z2⟩⟩
       . rw [qaq c] at z
         refine (hok4 b ob z).stay (fun _ _ _ q=>q) (fun c2 q=>?_) fun c2 xs q=>?_
         . rw [qaq (neH c2 _ q)]
           exact q
         . rw [qaq (neH c2 _ q)]
           exact q
   refine qde (X:=X.within pins e) (v := .ref e) (i:=i) (x:=n) J5.within hN hi (.inl hl) rfl (fun s6 I6=>?_) (.inr hl)
   refine wpAny_mono (hs pins e [] s6 _ _ _ I6 (qh e σ1 (I1.len.trans I.len.symm) n3)) (fun f s7 q7=>?_) fun _ _ z=>z.elim
   cases f with
   | next=>obtain ⟨σ7,H7,I7,d⟩:=q7;exact qcX (I7.outside I.ok) hN hi hl fun s8 I8=>⟨_,_,I8,d⟩
   | brk=>obtain ⟨σ7,H7,I7,d⟩:=q7;exact qcX (I7.outside I.ok) hN hi hl fun s8 I8=>⟨_,_,I8,d⟩
   | cont=>obtain ⟨σ7,H7,I7,d⟩:=q7;exact qcX (I7.outside I.ok) hN hi hl fun s8 I8=>⟨_,_,I8,d⟩
   | ret u=>obtain ⟨v,σ7,H7,I7,r,d⟩:=q7;exact qcX (I7.outside I.ok) hN hi hl fun s8 I8=>⟨v,_,_,I8,r,d⟩
end
structure qpU (K:PySem.W.Frag) (C:Addr):Prop where
 cls:∃bmB newId,PySem.W.excIn K C bmB newId=true
 ga:PySem.W.findIn K (.ref C) "__getattribute__" = some (some (.builtin "BaseException.__getattribute__"))
 gt:PySem.W.findIn K (.ref C) "__getattr__" = some none
 cl:PySem.W.findIn K (.ref C) "__class__" = some (some (.builtin "object.__class__"))
 be:PySem.W.subIn K (.ref C) (.type "BaseException")=some true
 ob:PySem.W.subIn K (.ref C) (.type "object")=some true
theorem qpU.look {K:PySem.W.Frag} {C:Addr} (k:qpU K C) {h:Heap} (kin:K.In h):Fly.Cl h C :=
 ⟨Fly.lk fun M=>PySem.W.looks_findIn kin k.ga,Fly.lk fun M=>PySem.W.looks_findIn kin k.gt,Fly.lk fun M=>PySem.W.looks_findIn kin k.cl,Fly.lk fun M=>PySem.W.looks_subIn kin k.be,Fly.lk fun M=>PySem.W.looks_subIn kin k.ob⟩
theorem qpU.kit {K:PySem.W.Frag} {C:Addr} (k:qpU K C) (e:Addr):PySem.W.KitX K (.ref e) (.ref C) (fun h=>∃o,h.get? e=some o/\o.cls = .ref C) where
 ty:=fun M h _ ⟨o,h1,h2⟩=>h2▸(PySem.W.Looks.ld h1).andThen .now
 it:=fun M h kin _=>by
   obtain ⟨bmB,nw,z⟩:=k.cls
   obtain ⟨bm,ns,nm,qn,bs,hdct,sn,sub,ab,col,dd,k0,k1,k2,k3,k5,mN,o1,_⟩:=qfn kin z
   intro A' Q' E' s' kp q
   unfold isType loadHead
   exact wpAny_bind (wpAny_loadPart (kp _ _ o1) (wpAny_pure q))
 ne:=fun h tp dd its n sl kin at1=>by
   obtain ⟨bmB,nw,z⟩:=k.cls
   obtain ⟨bm,ns,nm,qn,bs,hdct,sn,sub,ab,col,dd,k0,k1,k2,k3,k5,mN,o1,_⟩:=qfn kin z
   refine yfr.mpr fun q=>?_
   have e1:C=tp:=Value.ref.inj (beq_iff_eq.mp q)
   subst e1
   have z1:=congrArg Obj.data (Option.some.inj (o1.symm.trans at1))
   cases z1
 ca:=fun {prog w A E Q s} kin ⟨o,h1,h2⟩ q=>by
   obtain ⟨hh,g,d,t,os⟩:=s
   exact Fly.cls_attr (k.look kin) h1 h2 q
def qtU (K:PySem.W.Frag) (C:Addr):List V->Hp->VK->Prop:=fun xs H Q=>∃(e:Addr) (y:V) (b:Bool),xs=[.ref e,y]/\H e=some (XO e C) /\
 ((∃T:String,y = .ty T/\PySem.W.kitOne K (.ref C) (.type T)=some b)\/(∃D:Addr,y = .ref D/\PySem.W.kitOne K (.ref C) (.ref D)=some b) \/
   ∃(tp:Addr) (Ds:List Addr),y = .ref tp/\H tp=some (.tup (Ds.map V.ref))/\PySem.W.kitAny K (.ref C) (Ds.map Value.ref)=some b)/\Q (.bl b) H
theorem qhB:∀{Ds:List Addr} {us:List Value},qa6 (Ds.map V.ref) us->us=Ds.map Value.ref
 | [],_,.nil=>rfl
 | D::Ds,_,.cons r t=>by
   cases (show _=Value.ref D from r)
   rw [qhB t]
   rfl
theorem qn0 {X:Cx} {K:PySem.W.Frag} {C:Addr} (hK:X.K=K) (k:qpU K C):qcM X (.builtin "isinstance") (qtU K C):=by
 subst hK
 intro pins s σ H xs us Q I r h
 obtain ⟨e,y,b,rfl,he,hy,q⟩:=h
 obtain ⟨u,w',rfl,rx,ry⟩:=qj4 r
 cases (show u=Value.ref e from rx)
 have p:∃o,s.heap.get? e=some o/\o.cls = .ref C:=(show qbs X.prog X.w H s.heap e (XO e C) from I.hok e _ he).1
 rcases hy with ⟨T,rfl,z⟩ | ⟨D,rfl,z⟩ | ⟨tp,Ds,rfl,ht,z⟩
 . cases (show w'=Value.type T from ry)
   exact wpAny_with_toks I.tk (PySem.W.kia_one (k.kit e) I.kIn p z (fun z=>nomatch z) fun tk htk=>⟨.bl b,H,I.tok _ htk,rfl,q⟩)
 . cases (show w'=Value.ref D from ry)
   exact wpAny_with_toks I.tk (PySem.W.kia_one (k.kit e) I.kIn p z (fun z=>nomatch z) fun tk htk=>⟨.bl b,H,I.tok _ htk,rfl,q⟩)
 . cases (show w'=Value.ref tp from ry)
   obtain ⟨_,its,rv,o,h1,h2,n,h3⟩:=(show qbs X.prog X.w H s.heap tp (.tup (Ds.map V.ref)) from I.hok tp _ ht)
   have hi:=qhB rv
   subst hi
   obtain ⟨c,dd,dt,sl⟩:=o
   cases (show c=_ from h2)
   cases (show dt=_ from h3)
   exact wpAny_with_toks I.tk (PySem.W.kia_tup (k.kit e) I.kIn p h1 z (fun z=>nomatch z) fun tk htk=>⟨.bl b,H,I.tok _ htk,rfl,q⟩)
structure qeu (P:Program) (w:World) (K:PySem.W.Frag) (mg:Str->Option Value) (base:Heap) (x:Str) (k:Nat) (ps:List Str) (sp:Sp) (f:Addr) (fd:FuncData):Prop where
 ok:qaM P w K mg base (CX1 P w) k f fd ps sp
 mg:mg x=some (.ref f)
 kp:PySem.W.keepIn K (.ref f)=true
 bd:qdr K fd ps []
theorem qbI {X:Cx} {x:Str} {p pos:Pos} {e:Expr} {es:List Expr} {t:TA} {k j:Nat} {ps:List Str} {sp:Sp} {f:Addr} {fd:FuncData} {E:XK} (C:qeu X.prog X.w X.K X.mg X.base x k ps sp f fd) (hr:qc3 j X.A) (hj:k<=j) (hg:Gl X x)
 (hp:qch (CX1 X.prog X.w) X E) (ha:PA X (e::es) t) (hdb:(x==("__debug__" : Str))=false:=by decide)
 (he:starEach (e::es) X.env=(false,eval e X.env)::starEach es X.env:=by rfl) (hpl:(backTo pos (starEach es X.env)).any (·.1)=false:=by rfl) :
 PE X (.Call (.Name x p) (e::es) [] pos) (qiH sp [] E t):=qmB C.ok (hr.mono hj) hg C.mg C.kp C.bd .nil hp ha hdb he hpl
theorem Fun.okX {P:Program} {w:World} {K:PySem.W.Frag} {mg:Str->Option Value} {base:Heap} {CX:CXT} {x qual:Str} {st:Stmt} {f:Addr} {fd:FuncData} {N ps:List Str} {k:Nat} {sp:Sp} (F:Fun K x qual st f fd) (S:qal N ps (qab st))
   (len:∀vs H Q E,sp vs H Q E->vs.length=ps.length)
   (hbody:∀(cdv:Value) (A:Around) (outer:List Env) (s:Shared) (H:Hp) (vs:List V) (Q:VK) (E:XK),qc3 k (A.deeper (envOfC qual (qab st) s.heap.objs.size f cdv))->sp vs H Q E ->
     ∃t,PSs (qg6 CX P w K mg base N qual (qab st) f cdv A outer s H E) (qaj st) t/\t { nx:=fun _ H'=>Q .non H',rt:=Q } (qgr N vs) H):qaM P w K mg base CX (k+1) f fd ps sp:=by
 obtain ⟨oc,od,kV,doc,pm,an,cdv,ct,osl,rfl,lk,hcd⟩:=F.ex
 exact qq9 lk hcd S len fun A outer s H vs Q E hr hsp=>hbody cdv A outer s H vs Q E hr hsp
def qnX (r:V->V->Hp->VK->XK->Prop):Sp:=fun vs H Q E=>∃x y,vs=[x,y]/\r x y H Q E
section
variable {K:PySem.W.Frag} {C D:Addr} {b:Bool} {T:String} {cd:ClassData}
theorem qeQ:PySem.W.kitOne K (.ref C) (.ref C)=some true:=by
 unfold PySem.W.kitOne
 rw [if_pos (by simp)]
theorem qeH (m:PySem.W.kitMeta T=true) (e:PySem.W.subIn K (.ref C) (.type T)=some b):PySem.W.kitOne K (.ref C) (.type T)=some b:=by
 unfold PySem.W.kitOne
 rw [if_neg (fun z=>by cases beq_iff_eq.mp z)]
 show (if PySem.W.kitMeta T=true then PySem.W.subIn K (.ref C) (.type T) else none)=some b
 rw [if_pos m,e]
theorem qbp (q:PySem.W.clsIn K D=some cd) (t:PySem.W.typeIn K (.ref D)=some (.type "type")) (n:(C==D)=false) (e:PySem.W.subIn K (.ref C) (.ref D)=some b):PySem.W.kitOne K (.ref C) (.ref D)=some b:=by
 unfold PySem.W.kitOne
 rw [if_neg (fun z=>by have z:=Value.ref.inj (beq_iff_eq.mp z);rw [z] at n;simp at n)]
 show (if ((PySem.W.clsIn K D).isSome&&PySem.W.typeIn K (.ref D)==some (.type "type"))=true then PySem.W.subIn K (.ref C) (.ref D) else none)=some b
 rw [if_pos (by rw [q,t];rfl),e]
end
section
variable {D:qeY} {σ:St} {H:Hp} {u:TS}
theorem qn8 {c:TT} {C:Addr} {E:XK} {te:TE}:qjT (qqC c (ql5 C E te) qj5) u D σ H↔c σ H fun b H1=>if b=true then te σ H1 (fun _ H2=>E (.ref C) none H2) else u D σ H1:=Iff.rfl
end
end L2
namespace Fly
open PySem
section
variable {M:Model} {A:Around} {E:Value->Shared->Prop} {s:Shared} {base:Heap} {env:Env} {outer:List Env} {L e:Addr}
theorem note_env {env env':Env} (h:env'.frame=env.frame) (x:Value):noteFrame x env'=noteFrame x env:=by
 unfold noteFrame frameOf
 rw [h]
theorem notedA {T:Addr} {cls fl:Value} {Q:Unit->Shared->Prop}
   (hA:A.frames=some (env::outer)) (hF:s.heap.FunFrames base (env::outer)) (hL:env.frame=some L) (x:At s.heap e T cls fl)
   (k:∀h' T2,(T2=T\/s.heap.get? T2=none)->Left ((env::outer).filterMap (·.frame)) [e,T] s.heap h'->At h' e T2 cls (rawInt L)->Q () { s with heap:=h' }) :
   wpAny M A (noteFrame (.ref e) env) Q E s:=by
 obtain ⟨ne,oe,vs,oT,ts,he,hc,hv,h1,hT,ht,h3⟩:=id x
 subst hc
 unfold noteFrame
 simp only [hL]
 refine wpAny_bind (wpAny_field he hv h1 ?_)
 rw [if_pos (show (Value.ref T != Value.none)=true from by simp)]
 refine wpAny_bind (wpAny_field hT ht h3 ?_)
 by_cases c:(fl==rawInt L)=true
 . rw [if_pos c]
   have c:=beq_iff_eq.mp c
   subst c
   exact wpAny_pure (k s.heap T (.inl rfl) ⟨fun _ _ q _ _=>q,fun b o q _ _=>⟨o.slots,q⟩⟩ x)
 rw [if_neg c]
 refine wpAny_bind (wpAny_setField hT ht (yfq.mp h3).1 ?_)
 generalize gh:s.heap.update T (Obj.mapFields (·.setIfInBounds 3 Value.none))=h2
 have ot:∀b,b≠T->h2.get? b=s.heap.get? b:=fun b hb=>by rw [<-gh];exact yde _ _ (Ne.symm hb)
 have ntT:∀b o,s.heap.get? b=some o->(∀vs,o.data ≠ .fields vs)->b≠T:=fun b o q nf z=>by
   rw [z,hT] at q
   cases q
   exact nf ts ht
 refine qqc (s:={ s with heap:=h2 }) hA (hF.of_keeps fun b o q nf=>⟨o,(ot b (ntT b o q nf)).trans q,rfl⟩) hL ((ot e (Ne.symm ne)).trans he) hv (yfq.mp h1).1 fun h' T2 n2 l a=>k h' T2 (.inr ?_) ⟨fun b o q n1 n3=>?_,fun b o q n1 n3=>?_⟩ a
 . cases q:s.heap.get? T2 with
   | none=>rfl
   | some o =>
     by_cases c:T2=T
     . rw [c] at n2
       rw [show ({ s with heap:=h2 }:Shared).heap=h2 from rfl,<-gh,ycn _ hT (Obj.isFreed_of_fields (Obj.data_mapFields ht _))] at n2
       cases n2
     . have:=(ot T2 c).trans q
       rw [show h2.get? T2=none from n2] at this
       cases this
 . simp only [ybd,ycw,or_false,not_or] at n3
   exact l.keep b o ((ot b n3.2).trans q) n1 (by simpa using n3.1)
 . simp only [ybd,ycw,or_false,not_or] at n3
   exact l.slot b o ((ot b n3.2).trans q) n1 (by simpa using n3.1)
theorem qq7 {T:Addr} {cls fl:Value} {f:Option Addr} {Q:Unit->Shared->Prop} (x:At s.heap e T cls fl) (k:∀h' fl',Left [] [T] s.heap h'->At h' e T cls fl'->Q () { s with heap:=h' }) :
   wpAny M A (setFlight (.ref e) f) Q E s:=by
 obtain ⟨ne,oe,vs,oT,ts,he,hc,hv,h1,hT,ht,h3⟩:=x
 have hz:3<ts.size:=(yfq.mp h3).1
 unfold setFlight
 refine wpAny_bind (wpAny_field he hv h1 ?_)
 rw [if_pos (show (Value.ref T != Value.none)=true from by simp)]
 refine wpAny_setField hT ht hz (k _ (f.elim .none fun f=>rawInt f) ⟨fun b o q _ n=>?_,fun b _ _ z=>absurd z (by simp)⟩ ?_)
 . rw [yde _ _ (fun z=>n (by rw [<-z];exact .head _))]
   exact q
 . refine ⟨ne,oe,vs,_,_,?_,hc,hv,h1,ycn _ hT (Obj.isFreed_of_fields (Obj.data_mapFields ht _)),Obj.data_mapFields ht _,by simp [hz]⟩
   rw [yde _ _ ne]
   exact he
theorem passes {α:Type} {T:Addr} {cls fl:Value} {what:String} {Q:α->Shared->Prop} (x:At s.heap e T cls fl) (k:∀h' fl',Left [] [T] s.heap h'->At h' e T cls fl'->E (.ref e) { s with heap:=h' }) :
   wpAny M A (passOn what (.ref e) env:Sem α) Q E s:=by
 obtain ⟨ne,oe,vs,oT,ts,he,hc,hv,h1,hT,ht,h3⟩:=id x
 unfold passOn
 refine wpAny_bind (wpAny_field he hv h1 ?_)
 rw [if_neg (show ¬((Value.ref T==Value.none)=true) from by simp)]
 exact wpAny_bind (qq7 x fun h' fl' l a=>wpAny_throw (k h' fl' l a))
end
end Fly
namespace L2
open PySem PySem.Spec PyProof.Rows
section
variable {X:Cx} {pins:List (Addr×Obj)} {σ:St} {H H':Hp} {s s':Shared}
structure Nw (X:Cx) (pins:List (Addr×Obj)) (H:Hp) (b:Addr):Prop where
 old:X.s₀.heap.get? b=none\/b∈X.ex
 loc:b≠X.env.locals
 cel:∀x c,X.env.cells.lookup x=some c->c≠b
 pin:∀p∈X.pn++pins,p.1≠b
 frm:b∉frs X.stack
 non:H b=none
theorem Inv.nw (I:Inv X pins σ H s) {b:Addr} (e:s.heap.get? b=none) (n:H' b=none):Nw X pins H' b:=by
 refine ⟨?_,fun z=>?_,fun x c q z=>?_,fun p hp z=>?_,fun z=>?_,n⟩
 . by_cases c:b∈X.ex
   . exact .inr c
   . cases q:X.s₀.heap.get? b with
     | none=>exact .inl rfl
     | some o =>
       obtain ⟨o',q'⟩:=I.base.there b o q c
       rw [e] at q'
       cases q'
 . obtain ⟨m,⟨o,_,_,ho,_⟩,_⟩:=I.loc
   rw [<-z,e] at ho
   cases ho
 . obtain ⟨v,o,ho,_⟩:=I.cell x c q
   rw [z,e] at ho
   cases ho
 . have:=(I.pin p hp).1
   rw [z,e] at this
   cases this
 . obtain ⟨_,o,ho,_⟩:=I.stack.mem z
   rw [e] at ho
   cases ho
theorem Inv.flown {ch:List Addr} {h':Heap} {t':Nat} (I:Inv X pins σ H s) (l:Fly.Left (frs X.stack) ch s.heap h') (hc:∀b∈ch,Nw X pins H b) (ht:1<=t':=by first | exact ydo 1 _ | assumption | exact Inv.tk (by assumption) | omega):Inv X pins σ H { s with heap:=h',toks:=t' }:=by
 have any:∀b o,s.heap.get? b=some o->b∉ch->∃sl,h'.get? b=some { o with slots:=sl }:=fun b o q n=>by
   by_cases c:b∈frs X.stack
   . exact l.slot b o q c n
   . exact ⟨o.slots,l.keep b o q c n⟩
 have nc:∀b o,X.s₀.heap.get? b=some o->b∉X.ex->b∉ch:=fun b o q n z=>by
   rcases (hc b z).old with w | w
   . rw [q] at w;cases w
   . exact n w
 have nl:X.env.locals∉ch:=fun z=>(hc _ z).loc rfl
 obtain ⟨m,hn,hl⟩:=id I.loc
 have hn':h'.Ns X.env.locals m:=by
   obtain ⟨o,es,ep,ho,hd,r⟩:=hn
   obtain ⟨sl,q⟩:=any _ o ho nl
   exact ⟨_,es,ep,q,hd,r⟩
 have cell':∀{c:Addr} {v:Option Value} {x:Str},X.env.cells.lookup x=some c->s.heap.IsCell c v->h'.IsCell c v:=fun {c v x} q z=>by
   obtain ⟨o,ho,hd⟩:=z
   obtain ⟨sl,q'⟩:=any c o ho fun w=>(hc c w).cel x c q rfl
   exact ⟨_,q',hd⟩
 refine ⟨I.ok,I.os,I.bare,⟨fun b o q n1 n2 n3=>?_,fun b o q n1 n2 n3=>?_,I.base.free,fun b o q n3=>?_,I.base.tups,I.base.frzs,I.base.tbls⟩,⟨m,hn',fun i x v e1 e2 e3=>?_⟩,fun x c q=>?_,I.free,I.freeC,fun p hp=>?_,I.hok.left l I.stkFree fun b z=>(hc b z).non,I.len,ht⟩
 . refine l.keep b o (I.base.keep b o q n1 n2 n3) (fun z=>?_) (nc b o q n3)
   rcases ybd.mp (I.stkSub b z) with w | w
   . have l1:=ycs q
     rw [w] at l1
     exact absurd l1 (ybu.mpr I.ok.above)
   . exact n2 w
 . obtain ⟨sl,q1⟩:=I.base.slot b o q n1 n2 n3
   obtain ⟨sl2,q2⟩:=any b _ q1 (nc b o q n3)
   exact ⟨sl2,q2⟩
 . obtain ⟨o',q1⟩:=I.base.there b o q n3
   obtain ⟨sl2,q2⟩:=any b _ q1 (nc b o q n3)
   exact ⟨_,q2⟩
 . obtain ⟨u,r,lk⟩:=hl i x v e1 e2 e3
   refine ⟨u,r,?_⟩
   rcases lk with z | ⟨k1,c,k2,k3⟩
   . exact .inl z
   . exact .inr ⟨k1,c,k2,cell' k2 k3⟩
 . obtain ⟨v,z⟩:=I.cell x c q
   exact ⟨v,cell' q z⟩
 . obtain ⟨z1,z2,z3,z4,z5⟩:=I.pin p hp
   refine ⟨l.keep _ _ z1 (fun w=>?_) fun w=>(hc _ w).pin p hp rfl,z2,z3,z4,z5⟩
   rcases ybd.mp (I.stkSub _ w) with q | q
   . exact z3 q
   . exact z4 q
theorem Inv.told {e:Addr} {o:HO} (I:Inv X pins σ H s) (n:Nw X pins H e) (ok:qbs X.prog X.w (upd H e o) s.heap e o):Inv X pins σ (upd H e o) s:=by
 have ne:∀b u,H b=some u->b≠e:=fun b u q z=>by rw [z,n.non] at q;cases q
 refine ⟨I.ok,I.os,I.bare,⟨I.base.keep,I.base.slot,fun b u q n1 n3=>?_,I.base.there,fun b xs q=>?_,fun b u v q=>?_,fun b ps q=>?_⟩,I.loc,I.cell,by rw [qaq (Ne.symm n.loc)];exact I.free,fun x c q=>by rw [qaq (n.cel x c q)];exact I.freeC x c q,fun p hp=>?_,fun b u q=>?_,I.len,I.tk⟩
 . have:b≠e:=fun z=>by
     rcases n.old with w | w
     . rw [<-z,q] at w;cases w
     . exact n3 (z▸w)
   rw [qaq this]
   exact I.base.free b u q n1 n3
 . have z:=I.base.tups b xs q
   rw [qaq (ne b _ z)]
   exact z
 . have z:=I.base.frzs b u v q
   rw [qaq (ne b _ z)]
   exact z
 . obtain ⟨qg9,z⟩:=I.base.tbls b ps q
   exact ⟨qg9,by rw [qaq (ne b _ z)];exact z⟩
 . obtain ⟨z1,z2,z3⟩:=I.pin p hp
   exact ⟨z1,by rw [qaq (n.pin p hp)];exact z2,z3⟩
 . by_cases c:b=e
   . subst c
     rw [qai] at q
     cases q
     exact ok
   . rw [qaq c] at q
     refine (I.hok b u q).stay (fun _ _ _ q=>q) (fun c2 q2=>?_) fun c2 xs q2=>?_
     . rw [qaq (ne c2 _ q2)];exact q2
     . rw [qaq (ne c2 _ q2)];exact q2
def Thr (X:Cx) (E:XK) (x:Value) (s':Shared):Prop:=∃(p1:List (Addr×Obj)) (σ1:St) (H':Hp) (e T C:Addr) (fl:Value),x = .ref e/\Inv X p1 σ1 H' s'/\Nw X p1 H' e/\Nw X p1 H' T/\Fly.At s'.heap e T (.ref C) fl/\E (.ref C) none H'
def qfM (X:Cx) (E:XK):Prop:=∀x s',Thr X E x s'->X.xe x s'
theorem qfM.passes {E:XK} (t:qfM X E):qch (CX1 X.prog X.w) X E:=fun pins σ H s x s' I ⟨e,T,C,H',ex,os,bare,U,hok,n1,n2,n3,n4,a,htk,q⟩ =>
 t x s' ⟨pins,σ,H',e,T,C,.none,ex,I.call' os U hok bare (ht:=htk) (ch:=[]) (fun b z=>absurd z (by simp)),I.nw n1 n3,I.nw n2 n4,a,q⟩
theorem qgv {P:Program} {w:World} {K:PySem.W.Frag} {mg:Str->Option Value} {base:Heap} {N:List Str} {qual:Str} {scope:Scope} {f:Addr} {cd:Value} {A:Around} {outer:List Env} {s0:Shared} {H0:Hp} {E:XK} :
   qfM (qg6 (CX1 P w) P w K mg base N qual scope f cd A outer s0 H0 E) E:=by
 rintro x s' ⟨p1,σ1,H',e,T,C,fl,rfl,J,ne,nT,a,q⟩
 have old:∀b,Nw (qg6 (CX1 P w) P w K mg base N qual scope f cd A outer s0 H0 E) p1 H' b->s0.heap.get? b=none:=fun b z=>by
   rcases z.old with w | w
   . exact w
   . exact absurd (show b∈[] from w) (by simp)
 show wpAny _ _ (leaving _ _) _ _ s'
 unfold leaving
 refine wpAny_bind (Fly.notedA (base:=base) J.ok.frames J.stack rfl a fun h2 T2 n2 l2 a2=>?_)
 refine Fly.lands (s:={ s' with heap:=h2 }) a2 fun h3 l3 a3=>?_
 have nT2:Nw (qg6 (CX1 P w) P w K mg base N qual scope f cd A outer s0 H0 E) p1 H' T2:=by
   rcases n2 with z | z
   . rw [z];exact nT
   . exact J.nw z (J.hok.none_of z)
 have cc:∀b∈[e,T,T2],Nw (qg6 (CX1 P w) P w K mg base N qual scope f cd A outer s0 H0 E) p1 H' b:=fun b z=>by
   simp only [ybd,ycw,or_false] at z
   rcases z with rfl | rfl | rfl
   . exact ne
   . exact nT
   . exact nT2
 have l23:Fly.Left (frs (qg6 (CX1 P w) P w K mg base N qual scope f cd A outer s0 H0 E).stack) [e,T,T2] s'.heap h3:=(l2.mono (fun _ z=>z) (fun b z=>by simp at z ⊢;rcases z with z | z<;>simp [z])).trans (l3.mono (fun _ z=>absurd z (by simp)) (fun b z=>by simp at z ⊢;simp [z]))
 have J3:=J.flown (t':=s'.toks) l23 cc
 exact ⟨e,T2,C,H',rfl,J3.os,J3.bare,J3.base,J3.hok,old e ne,old T2 nT2,ne.non,nT2.non,a3,J3.tk,q⟩
end
section
variable {X:Cx}
end
end L2
namespace L2
open PySem PySem.Spec PyProof.Rows
section
variable {prog:Program} {w:World} {A:Around} {R:Result->Shared->Prop} {s:Shared}
theorem qgP {elt target iter:Expr} {ifs:List Expr} {scope:Scope} {pos:Pos} {it acc:Value} {env:Env} (I:Nat->Shared->Prop)
   (turn:∀n s,I n s->wpAny (model prog w) A (pyNext it) (fun r s₁=>match r with
     | none=>R (.ok .next) s₁
     | some v=>wpAny (model prog w) A (letOwnedTupleGo target it v) (fun _ s₁'=>wpAny (model prog w) A (assign target env v) (fun _ s₂ =>
         wpAny (model prog w) A (forIn ifs true fun c r=>if r=true then do let ok <-isTrue c env (eval c env);pure (ForInStep.yield ok) else pure (ForInStep.yield r)) (fun ok s₃ =>
           if ok=true then wpAny (model prog w) A (eval elt env) (fun x s₄ =>
             wpAny (model prog w) A (call (.builtin "list.append") [acc,x]) (fun _ s₅=>∃m,m<n/\I m s₅) (fun _ _=>False) s₄) (notedBy (model prog w) A env fun e s'=>R (.error e) s') s₃
           else ∃m,m<n/\I m s₃) (fun _ _=>False) s₂) (fun _ _=>False) s₁') (fun _ _=>False) s₁) (fun _ _=>False) s)
   (n:Nat) (h:I n s):codeAny (model prog w) A (.compLoop (.ListComp elt [⟨target,iter,ifs,0⟩] scope pos) 0 it acc env) R s:=by
 refine codeAny_loop rfl I (fun n s hI=>?_) n h
 show wpAny _ A ((compTurn (.ListComp elt [⟨target,iter,ifs,0⟩] scope pos) 0 it acc env).onRaise (fun x=>do noteFrame x env;theTreesLotGoes x)) _ _ s
 refine wpAny_noted ?_
 rw [compTurn_list]
 refine wpAny_bind (wpAny_standAt (wpAny_bind (wpAny_mono (turn n s hI) (fun r s₁ h₁=>?_) fun _ _ h'=>h'.elim)))
 cases r with
 | none=>exact wpAny_pure h₁
 | some v =>
   refine wpAny_bind (wpAny_mono h₁ (fun _ s₁' h₁'=>?_) fun _ _ h'=>h'.elim)
   refine wpAny_bind (wpAny_mono h₁' (fun _ s₂ h₂=>wpAny_bind (wpAny_mono h₂ (fun ok s₃ h₃=>?_) fun _ _ h'=>h'.elim)) fun _ _ h'=>h'.elim)
   cases ok with
   | false=>exact wpAny_pure ⟨rfl,h₃⟩
   | true =>
     exact wpAny_bind (wpAny_bind (wpAny_mono h₃ (fun x s₄ h₄=>wpAny_bind (wpAny_mono h₄ (fun _ s₅ h₅=>wpAny_pure (wpAny_pure ⟨rfl,h₅⟩)) fun _ _ h'=>h'.elim)) fun _ _ h'=>h'))
end
section
variable {X:Cx} {tg iter elt:Expr} {ifs:List Expr} {scope:Scope} {pos:Pos} {N:List Str} {nt:Nat} {caps:List Nat} {wi:TI} {g:TG} {tt:TT} {te:TE} {cl:List (Str×Addr)}
theorem qnN {E0:XK} {pins ps:List (Addr×Obj)} {σ:St} {H:Hp} {s s8:Shared} {fp:List Addr} {C:Addr} {x:Value} {RE:Value->Shared->Prop} (tk:qfM X E0) (stk:X.stack=X.env::X.outer) (hfr:X.env.frame=some X.env.locals) (hC:s.heap.objs.size<C)
   (I:Inv X pins σ H s) (hf:∀b∈fp,qh3 X pins H b) (fpin:∀b∈fp,∃o,(b,o)∈ps) (th:Thr ((blk X N scope cl C s H fp).pinned ps) E0 x s8)
   (hRE:∀s',(∃m,s'.heap.Ns C m/\∀h',Heap.SameBut C s'.heap h'->∀cenv:Env,cenv.locals=C->wpAny (model X.prog X.w) X.A (passOn "comprehension.variables-let-go" x cenv:Sem Value) (fun _ _=>False) X.xe { s' with heap:=h' })->RE x s') :
   notedBy (model X.prog X.w) X.A (compEnvC scope cl C X.env) RE x s8:=by
 obtain ⟨p1,σ1,H',e,T,C',fl,rfl,J,ne,nT,a,q⟩:=th
 show wpAny _ _ (noteFrame _ _) _ _ _
 rw [Fly.note_env (env:=X.env) (env':=compEnvC scope cl C X.env) rfl]
 refine Fly.notedA (base:=X.base) (L:=X.env.locals) (show X.A.frames=_ from stk▸I.ok.frames) (show s8.heap.FunFrames X.base (X.env::X.outer) from stk▸J.stack) hfr a fun h2 T2 n2 l2 a2=>hRE _ ?_
 have nT2:Nw ((blk X N scope cl C s H fp).pinned ps) p1 H' T2:=by
   rcases n2 with z | z
   . rw [z];exact nT
   . exact J.nw z (J.hok.none_of z)
 have cc:∀b∈[e,T,T2],Nw ((blk X N scope cl C s H fp).pinned ps) p1 H' b:=fun b z=>by
   simp only [ybd,ycw,or_false] at z
   rcases z with rfl | rfl | rfl
   . exact ne
   . exact nT
   . exact nT2
 have l2:Fly.Left (frs X.stack) [e,T,T2] s8.heap h2:=by
   rw [stk]
   exact l2.mono (fun _ z=>z) fun b z=>by simp at z ⊢;rcases z with z | z<;>simp [z]
 have J2:=J.flown (t':=s8.toks) l2 cc
 have fresh:∀b,Nw ((blk X N scope cl C s H fp).pinned ps) p1 H' b->s.heap.get? b=none:=fun b z=>by
   rcases z.old with w | w
   . exact w
   . obtain ⟨o,ho⟩:=fpin b w
     exact absurd rfl (z.pin (b,o) (yas _ (ydw _ ho)))
 obtain ⟨m,hn,_⟩:=J2.loc
 refine ⟨m,hn,fun h' sb cenv _=>?_⟩
 have ek:∀b,b≠C->h'.get? b=h2.get? b:=fun b hb=>sb.2 b hb
 have a3:Fly.At h' e T2 (.ref C') (rawInt X.env.locals):=by
   obtain ⟨z0,oe,vs,oT,ts,z1,z2,z3,z4,z5,z6⟩:=a2
   exact ⟨z0,oe,vs,oT,ts,(ek e ne.loc).trans z1,z2,z3,z4,(ek T2 nT2.loc).trans z5,z6⟩
 refine Fly.passes (s:={ s8 with heap:=h' }) a3 fun h3 fl3 l3 a4=>tk _ _ ?_
 have IY:=J2.unpin1
 have hCn:H' C=none:=IY.free
 have hok:HOk X.prog X.w H' h':=fun b u q=>by
   have nC:∀c u',H' c=some u'->c≠C:=fun c u' q' z=>by rw [z,hCn] at q';cases q'
   refine (IY.hok b u q).stay (fun c w' hc q'=>(ek c ?_).trans q') (fun _ q'=>q') fun _ _ q'=>q'
   rcases hc with z | z
   . rw [z];exact nC b u q
   . exact nC c _ z
 have lt:∀b o,s.heap.get? b=some o->b≠C:=fun b o q=>ycu (ybl (ycs q) hC)
 have u:Un (frs X.stack) fp H H' s.heap h':=⟨fun b o q nn hb hx=>(ek b (lt b o q)).trans (IY.base.keep b o q nn hb hx),fun b o q nn hb hx=>by
     obtain ⟨sl,q'⟩:=IY.base.slot b o q nn hb hx
     exact ⟨sl,(ek b (lt b o q)).trans q'⟩,IY.base.free,fun b o q hx=>by
     obtain ⟨o',q'⟩:=IY.base.there b o q hx
     exact ⟨o',(ek b (lt b o q)).trans q'⟩,IY.base.tups,IY.base.frzs,IY.base.tbls⟩
 have I1:Inv X pins σ H' { s8 with heap:=h' }:=I.call' (ht:=IY.tk) (s':={ s8 with heap:=h' }) (ch:=fp) IY.os u hok IY.bare fun b hb=>⟨(hf b hb).2.2.2.1,(hf b hb).2.1,(hf b hb).2.2.2.2.1,(hf b hb).2.2.2.2.2⟩
 have w1:Nw X pins H' e:=I.nw (fresh e ne) ne.non
 have w2:Nw X pins H' T2:=I.nw (fresh T2 nT2) nT2.non
 exact ⟨pins,σ,H',e,T2,C',fl3,rfl,I1.flown (t':=s8.toks) (l3.mono (fun _ z=>absurd z (by simp)) fun _ z=>z) fun b z=>by rw [ydi.mp z];exact w2,w1,w2,a4,q⟩
theorem qln {E0:XK} {pins:List (Addr×Obj)} {σ:St} {H:Hp} {s:Shared} {it:Addr} {fp:List Addr} {tn:Nat->Heap->Prop} {J:It} {RR:Value->Addr->Result->Shared->Prop} {E:Value->Shared->Prop}
   (ok:qf3 X N nt caps scope) (hc:X.calm=true) (h1:∀n c,cl.lookup n=some c->X.env.cells.lookup n=some c) (h2:∀n,(n,NameKind.free)∈scope.names->∃c,cl.lookup n=some c)
   (hg:∀cl C s H fp,PG (blk X N scope cl C s H fp) tg g) (hgk:qiv nt g) (ht:∀cl C s H fp,PTs (blk X N scope cl C s H fp) ifs tt) (he:∀cl C s H fp ps xe,qfM (((blk X N scope cl C s H fp).pinned ps).wish xe) E0->PE (((blk X N scope cl C s H fp).pinned ps).wish xe) elt te) (tk:qfM X E0) (stk:X.stack=X.env::X.outer) (hfr:X.env.frame=some X.env.locals)
   (I:Inv X pins σ H s) (T:qqx X.prog X.w X.K tg J fp it tn) (st:tn 0 s.heap) (hf:∀b∈fp,qh3 X pins H b)
   (W:Nat->Nat->List V->Hp->Prop) (Z:List V->Hp->Prop) (m0:Nat) (w0:W 0 m0 [] H)
   (turn:∀i m ys H2,W i m ys H2->(J.stop i H2/\Z ys H2) \/
     (J.go i H2/\ys.length<sizeLine/\∀x H3,J.yld i H2 x H3->g x (qbE nt caps σ) H3 fun σ4 H4=>tt σ4 H4 fun b H5 =>
       if b=true then te σ4 H5 fun y H6=>∃m',m'<m/\W (i+1) m' (ys++[y]) H6 else ∃m',m'<m/\W (i+1) m' ys H5))
   (hRR:∀(C:Addr) (s':Shared) (ys:List V) (its:List Value) (n:Nat) (H':Hp),s.heap.objs.size<C->qa6 ys its->Inv (blk X N scope cl C s H fp) [] (qbE nt caps σ) H' s' ->
     s'.heap.get? s.heap.objs.size=some { cls := .type "list",data := .seq its.toArray n }->H' s.heap.objs.size=none->Z ys H'->RR (.ref s.heap.objs.size) C (.ok .next) s')
   (hRE:∀(C:Addr) (x:Value) (s':Shared),(∃m,s'.heap.Ns C m/\∀h',Heap.SameBut C s'.heap h'->∀cenv:Env,cenv.locals=C->wpAny (model X.prog X.w) X.A (passOn "comprehension.variables-let-go" x cenv:Sem Value) (fun _ _=>False) X.xe { s' with heap:=h' })->RR (.ref s.heap.objs.size) C (.error x) s') :
   wpAny (model X.prog X.w) X.A (newList []) (fun acc s₃=>wpAny (model X.prog X.w) X.A (newFunctionEnv scope X.env.globals cl [] X.env.qual none .none (some X.env)) (fun cenv s₄ =>
     codeAny (model X.prog X.w) X.A (.compStart (.ListComp elt [⟨tg,iter,ifs,0⟩] scope pos) 0 (.ref it) acc { cenv with scope:=relabel scope X.env }) (RR acc cenv.locals) s₄) E s₃) E s:=by
 refine wpAny_newObj_type (wpAny_newFunctionEnv ok.cell (by intro y hy;simp at hy) (fun h₁ hns₁ hsb₁=>?_) ok.kind)
 dsimp only at hns₁ hsb₁ ⊢
 generalize hG:s.heap.push { cls := .type "list",dict:=none,data := .seq ([]:List Value).toArray }=G at hns₁ hsb₁ ⊢
 have hC:G.objs.size=s.heap.objs.size+1:=by rw [<-hG,yct]
 have hDC:s.heap.objs.size≠G.objs.size:=by rw [hC];exact ycu (ybx _)
 have hlt:s.heap.objs.size<G.objs.size:=by rw [hC];exact ybx _
 have old:∀b o,s.heap.get? b=some o->h₁.get? b=some o:=fun b o e =>
   hsb₁.extBut b o (ycu (ybl (ycs e) hlt)) (ycr _ (hG▸ycr _ e))
 have hacc:h₁.get? s.heap.objs.size=some { cls := .type "list",data := .seq ([]:List Value).toArray 0 }:=hsb₁.extBut _ _ hDC (ycr _ (hG▸ycq _ rfl))
 have fpD:∀b∈fp,b<s.heap.objs.size:=fun b hb=>by
   obtain ⟨o,e,_⟩:=T.obj _ _ st b hb
   exact ycs e
 have celt:∀n c,cl.lookup n=some c->c<s.heap.objs.size:=fun n c e=>by
   obtain ⟨v,q⟩:=I.cell n c (h1 n c e)
   exact q.lt
 have YOk:(blk X N scope cl G.objs.size s H fp).Ok:=by
   refine ⟨I.ok.mod,ok.kind,I.ok.glob,I.ok.blt,ybs hlt,fun x y c e e'=>I.ok.inj x y c (h1 x c e) (h1 y c e'),fun x hx=>?_,fun x c hx _=>(nomatch hx),I.ok.hd,I.ok.frames,.inl rfl,
     fun b hb=>⟨ycu (ybl (fpD b hb) hlt),fun x c e z=>?_⟩,fun b o e=>I.bs b o e,ybt I.ok.bsz I.sz,fun b o e hb=>?_,fun b hb hz=>?_,I.stack,I.stkFree⟩
   . rcases hx with hx | hx
     . exact h2 x (qcq ok.cell hx (.inl rfl))
     . exact h2 x (qcq ok.cell hx (.inr rfl))
   . exact (hf b hb).2.2.2.2.1 x c (h1 x c e) z
   . rcases (hf b hb).2.2.2.1 with z | z
     . exact I.ok.noex b o e z
     . exact absurd (yae (ycs e) (ybt I.ok.bsz z)) (ydn _)
   . rcases ybd.mp (I.stkSub b hz) with z | z
     . exact (hf b hb).2.1 z
     . exact (hf b hb).2.2.1 z
 have lenb:(qbE nt caps σ).length=N.length:=by rw [ok.len];simp [qbE]
 have IY:Inv (blk X N scope cl G.objs.size s H fp) [] (qbE nt caps σ) H { s with heap:=h₁,toks:=s.toks+([]:List (Str×Value)).length }:=by
   refine ⟨YOk,rfl,I.bare,Un.kept old,⟨_,hns₁,fun i x v e1 e2 e3=>?_⟩,fun x c e=>?_,I.hok.fresh (ybs hlt),fun x c e=>I.freeC x c (h1 x c e),fun p hp=>(nomatch hp),I.hok.kept old,lenb,I.tk⟩
   . have hi:nt<=i:=by
       rcases yag i nt with z | z
       . exfalso
         unfold qbE at e2
         rw [yeh (by simpa using z),yeg] at e2
         split at e2<;>cases e2
       . exact z
     unfold qbE at e2
     rw [yef (by simpa using hi),yei,ydf] at e2
     cases ej:caps[i-nt]? with
     | none=>rw [ej] at e2;cases e2
     | some j =>
       rw [ej] at e2
       have e2':(σ[j]?).join=some v:=by simpa using e2
       have e2'':σ[j]?=some (some v):=by
         cases q:σ[j]? with
         | none=>rw [q] at e2';cases e2'
         | some z=>rw [q] at e2';simp at e2';rw [e2']
       obtain ⟨y,y1,y2,y3,y4⟩:=ok.cap _ _ ej
       have:nt+(i-nt)=i:=by omega
       rw [this] at y2
       have e1':N[i]?=some x:=e1
       rw [e1'] at y2
       cases y2
       obtain ⟨m,hn,hl⟩:=I.loc
       have kx:=ok.free x y3
       have vx:Vis X.env.scope x:=by
         rcases kx with z | z
         . exact .inr (.inl z)
         . exact .inr (.inr z)
       obtain ⟨u,r,l⟩:=hl j x v y1 e2'' vx
       refine ⟨u,r,.inr ⟨?_,?_⟩⟩
       . rcases e3 with z | z | z
         . exact absurd z (qei y4)
         . exact .inl z
         . exact .inr z
       . obtain ⟨c,hcl⟩:=h2 x y3
         refine ⟨c,hcl,?_⟩
         rcases l with ⟨k,_⟩ | ⟨_,c',hc',o,ho,hd⟩
         . rcases kx with z | z<;>(rw [z] at k;cases k)
         . have:c=c':=Option.some.inj ((h1 x c hcl).symm.trans hc')
           subst this
           exact ⟨o,old c o ho,hd⟩
   . obtain ⟨v,o,ho,hd⟩:=I.cell x c (h1 x c e)
     exact ⟨v,o,old c o ho,hd⟩
 -- the loop
 have stat:∀{pn:List (Addr×Obj)} {H':Hp},(∀b∈fp,H' b=none)->(∀p∈pn,s.heap.objs.size<=p.1)->∀b∈fp,qh3 (blk X N scope cl G.objs.size s H fp) pn H' b:=fun {pn H'} hn hpn b hb =>
   ⟨hn b hb,ycu (ybl (fpD b hb) hlt),fun hz=>(YOk.exfs b hb hz).elim,.inl hb,fun x c e z=>(hf b hb).2.2.2.2.1 x c (h1 x c e) z,fun p hp z=>by
     have hp':p∈pn:=by simpa [blk] using hp
     have:=hpn p hp'
     rw [z] at this
     exact absurd (yae (fpD b hb) this) (ydn _)⟩
 have hDf:s.heap.objs.size∉fp:=fun hm=>ydn _ (fpD _ hm)
 have hDs:s.heap.objs.size∉frs X.stack:=fun hm=>by
   rcases ybd.mp (I.stkSub _ hm) with z | z
   . exact absurd I.lt (by rw [<-z];exact ydn _)
   . exact I.nofs (yax _) z
 have loop:∀s₃:Shared,s₃={ s with heap:=h₁,toks:=s.toks+([]:List (Str×Value)).length } ->
     codeAny (model X.prog X.w) X.A (.compLoop (.ListComp elt [⟨tg,iter,ifs,0⟩] scope pos) 0 (.ref it) (.ref s.heap.objs.size) (compEnvC scope cl G.objs.size X.env)) (RR (.ref s.heap.objs.size) G.objs.size) s₃:=by
   rintro s₃ rfl
   refine qgP (fun n s'=>∃i ys its k H',Inv (blk X N scope cl G.objs.size s H fp) [] (qbE nt caps σ) H' s'/\tn i s'.heap/\(∀b∈fp,H' b=none)/\qa6 ys its /\
     s'.heap.get? s.heap.objs.size=some { cls := .type "list",data := .seq its.toArray k }/\H' s.heap.objs.size=none/\ys.length<=sizeLine/\W i n ys H') ?_ m0
     ⟨0,[],[],0,H,IY,T.keep _ _ _ st fun b hb o e=>old b o e,fun b hb=>(hf b hb).1,.nil,hacc,I.hok.fresh (yax _),ybv _,w0⟩
   rintro n s3 ⟨i,ys,its,k,H3,I3,st3,fr3,v3,a3,n3,z3,w3⟩
   have I3p:Inv (blk X N scope cl G.objs.size s H fp) [(s.heap.objs.size,{ cls := .type "list",data := .seq its.toArray k })] (qbE nt caps σ) H3 s3:=I3.pins_of fun p hp=>by
     have e:p=(s.heap.objs.size,{ cls := .type "list",data := .seq its.toArray k }):=by simpa using hp
     subst e
     exact ⟨a3,n3,hDC,hDs,fun v z=>by cases z⟩
   have pn3:∀p∈[(s.heap.objs.size,({ cls := .type "list",data := .seq its.toArray k }:Obj))],s.heap.objs.size<=p.1:=fun p hp=>by
     have e:p=(s.heap.objs.size,{ cls := .type "list",data := .seq its.toArray k }):=by simpa using hp
     subst e
     exact yax _
   rcases turn i n ys H3 w3 with ⟨stop,zz⟩ | ⟨go,hlen,step⟩
   . refine thn (T.done (blk X N scope cl G.objs.size s H fp) rfl rfl rfl hc i _ s3 _ H3 _ I3p (stat fr3 pn3) st3 stop) fun r s4 ⟨hr,I4⟩=>?_
     subst hr
     have a4:=I4.pin (s.heap.objs.size,{ cls := .type "list",data := .seq its.toArray k }) (ydw _ (by simp))
     exact hRR _ s4 ys its k H3 hlt v3 (I4.pins_of fun _ hp=>nomatch hp) a4.1 n3 zz
   . refine thn (T.item (blk X N scope cl G.objs.size s H fp) rfl rfl rfl hc i _ s3 _ H3 _ I3p (stat fr3 pn3) st3 go) fun r s4 ⟨u,hr,h4⟩=>?_
     subst hr
     refine thn h4 fun _ s5 ⟨x,H5,I5,r5,y5,st5,fr5⟩=>?_
     have I5':=I5.pinned (stat fr5 pn3) (T.obj _ _ st5)
     refine thn (hg _ _ _ _ _ _ s5 _ H5 x u _ I5' r5 (hgk _ _ _ _ (step x H5 y5))) fun _ s6 ⟨σ6,H6,I6,kp6,q6⟩=>?_
     refine thn (ht _ _ _ _ _ _ s6 σ6 H6 _ I6 q6) fun b s7 ⟨H7,I7,q7⟩=>?_
     have qqF:∀{H8:Hp} {s8:Shared},Inv (blk X N scope cl G.objs.size s H fp) ([(s.heap.objs.size,({ cls := .type "list",data := .seq its.toArray k }:Obj))]++qdx fp s5.heap) σ6 H8 s8 ->
         Inv (blk X N scope cl G.objs.size s H fp) [] (qbE nt caps σ) H8 s8/\tn (i+1) s8.heap/\(∀b∈fp,H8 b=none)/\s8.heap.get? s.heap.objs.size=some { cls := .type "list",data := .seq its.toArray k }/\H8 s.heap.objs.size=none:=fun {H8 s8} I8=>by
       have a8:=I8.pin (s.heap.objs.size,{ cls := .type "list",data := .seq its.toArray k }) (ydw _ (yas _ (by simp)))
       refine ⟨(I8.pins_of (pins':=[]) fun _ hp=>absurd hp (by simp)).weak (by rw [lenb,I8.len];rfl) kp6,T.keep _ _ _ st5 fun b hb o e=>(I8.pin (b,o) (ydw _ (ydw _ (qbK hb e)))).1,fun b hb=>?_,a8.1,a8.2.1⟩
       obtain ⟨o,e,d⟩:=T.obj _ _ st5 b hb
       exact (I8.pin (b,o) (ydw _ (ydw _ (qbK hb e)))).2.1
     cases b with
     | false =>
       rw [if_neg (by intro z;cases z)] at q7 ⊢
       obtain ⟨m',hm,w7⟩:=q7
       obtain ⟨b1,b2,b3,b4,b5⟩:=qqF I7
       exact ⟨m',hm,i+1,ys,its,k,H7,b1,b2,b3,v3,b4,b5,z3,w7⟩
     | true =>
       rw [if_pos rfl] at q7 ⊢
       have fpin:∀b∈fp,∃o,(b,o)∈([(s.heap.objs.size,({ cls := .type "list",data := .seq its.toArray k }:Obj))]++qdx fp s5.heap):=fun b hb=>by
         obtain ⟨o,e,_⟩:=T.obj _ _ st5 b hb
         exact ⟨o,ydw _ (qbK hb e)⟩
       refine wpAny_mono (he cl G.objs.size s H fp ([(s.heap.objs.size,({ cls := .type "list",data := .seq its.toArray k }:Obj))]++qdx fp s5.heap) (Thr ((blk X N scope cl G.objs.size s H fp).pinned ([(s.heap.objs.size,({ cls := .type "list",data := .seq its.toArray k }:Obj))]++qdx fp s5.heap)) E0) (fun x s' ⟨p1,σ1,H',e,T,C',fl,ex,J,n1,n2,a,q⟩=>⟨p1,σ1,H',e,T,C',fl,ex,J.unwish,⟨n1.old,n1.loc,n1.cel,n1.pin,n1.frm,n1.non⟩,⟨n2.old,n2.loc,n2.cel,n2.pin,n2.frm,n2.non⟩,a,q⟩) [] s7 σ6 H7 _ (I7.pin1.wish _) q7) (fun u8 s8 ⟨y,H8,I8,r8,m',hm,w8⟩=>?_) fun x8 s8 th8=>qnN tk stk hfr hlt I hf fpin th8 (hRE _ _)
       have I8:=I8.unwish.unpin1
       obtain ⟨b1,b2,b3,b4,b5⟩:=qqF I8
       have hl:=v3.length
       refine call_meets F.slot_list_append ⟨_,b4,rfl⟩ F.entry_list_append (F.args_list_append_2 _ _) (PySem.list_append s.heap.objs.size its.toArray k u8 (by rw [yen];omega)) ⟨b4,?_⟩
       have q:=PySem.IsL.update (show PySem.IsL s8.heap s.heap.objs.size its.toArray k from b4) (fun x=>x.push u8)
       have eq:its.toArray.push u8=(its++[u8]).toArray:=by simp
       rw [eq] at q
       have keep:∀b' o,b'≠s.heap.objs.size->s8.heap.get? b'=some o->(s8.heap.update s.heap.objs.size (Obj.mapSeq fun x=>x.push u8)).get? b'=some o:=fun b' o hb hu =>
         (yde s8.heap (Obj.mapSeq fun x=>x.push u8) (Ne.symm hb)).trans hu
       refine ⟨m',hm,i+1,ys++[y],its++[u8],_,H8,b1.turned (t':=s8.toks) keep b5 hDC (.inr (yax _)) (fun x c e z=>?_) (fun p hp=>by simp [blk] at hp),T.keep _ _ _ b2 fun b hb o e=>keep b o (fun z=>hDf (z▸hb)) e,b3,
         v3.append (.cons r8 .nil),q,b5,?_,w8⟩
       . exact absurd (celt x c e) (by rw [z];exact ydn _)
       . rw [ycm,yeq];omega
 exact codeAny_compStart_list (loop _ rfl) (T.self _ 0 _ _ _ (T.keep _ _ _ st fun b hb o e=>old b o e) (loop _ rfl))
theorem qgZ {E0:XK} {i:Nat} {y:Str} {py spos:Pos} (hN:X.N.Nodup) (hyi:X.N[i]?=some y) (hy:X.env.scope.names.lookup y=some .local) (hsw:swapsWith (.ListComp elt [⟨tg,iter,ifs,0⟩] scope pos) (some (.Name y py)) spos.line X.env=pure true)
   (ok:qf3 X N nt caps scope) (hc:X.calm=true) (hi:PI X tg iter wi)
   (hg:∀cl C s H fp,PG (blk X N scope cl C s H fp) tg g) (hgk:qiv nt g) (ht:∀cl C s H fp,PTs (blk X N scope cl C s H fp) ifs tt) (he:∀cl C s H fp ps xe,qfM (((blk X N scope cl C s H fp).pinned ps).wish xe) E0->PE (((blk X N scope cl C s H fp).pinned ps).wish xe) elt te) (tk:qfM X E0) (stk:X.stack=X.env::X.outer) (hfr:X.env.frame=some X.env.locals)
   (hs:∀x,foldedSetIterable iter X.env x=pure x:=by intro _;rfl):PS X (.Assign [.Name y py] (.ListComp elt [⟨tg,iter,ifs,0⟩] scope pos) spos) (qoh (qfO nt caps wi g tt te) (qey i)):=by
 intro pins s σ H D I h
 obtain ⟨cl,hcl,h1,h2⟩:=qcY (scope:=scope) (env:=X.env) fun n hn=>I.ok.has n (ok.free n hn)
 rw [exec_Assign_Name_used _ _ _ _ hsw]
 refine wpAny_bind (wpAny_standAt (wpAny_bind ?_))
 show wpAny _ X.A (do let _ <-comprehension (.ListComp elt [⟨tg,iter,ifs,0⟩] scope pos) scope X.env _ (newList []) false (eval iter X.env) (some (assign (.Name y py) X.env))) _ _ s
 refine wpAny_bind (wpAny_mono (wpAny_comprehension_free (use:=some (assign (.Name y py) X.env)) (Q:=fun _ s'=>SP X pins D .next s') rfl hs hcl ok.kind ok.names
   (thn (hi pins s σ H _ I h) fun xv s1 h1'=>thn h1' fun itv s2 h2'=>?_)) (fun _ s' hq=>wpAny_pure (wpAny_pure hq)) fun _ _ e=>e)
 obtain ⟨it,fp,tn,J,H2,e,I2,T,st2,f2,W,⟨m0,w0⟩,turn⟩:=h2'
 subst e
 refine qln (RR:=fun acc C=>compPost (model X.prog X.w) X.A X.xe (some (assign (.Name y py) X.env)) (fun _ s'=>SP X pins D .next s') acc C) ok hc h1 h2 hg hgk ht he tk stk hfr I2 T st2 f2 W
   (fun ys H'=>ys.length<=sizeLine/\∀p,H' p=none->qey i (.ref p) σ (upd H' p (.lst ys)) D.nx) m0 w0 turn ?_ (fun _ _ _ z=>z)
 intro C s' ys its n H' hC v IY e en zz
 obtain ⟨m,hn,_⟩:=IY.loc
 have I3:Inv X pins σ (upd H' s2.heap.objs.size (.lst ys)) s':=qe9 (h':=s'.heap) I2 f2 hC v zz.1 IY e en fun b o hb q=>q
 obtain ⟨o,es,ep,ho,r⟩:=id hn
 have fC:qh3 X pins (upd H' s2.heap.objs.size (.lst ys)) C:=by
   have f:=I2.fpOk (H':=H') (b:=C) (ybs hC) IY.free
   refine ⟨by rw [qaq (Ne.symm (ycu hC))];exact IY.free,f.2⟩
 show wpAny (model X.prog X.w) X.A (assign (.Name y py) X.env (.ref s2.heap.objs.size)) (fun _ s''=>∃m,s''.heap.Ns C m/\∀h',Heap.SameBut C s''.heap h'->SP X pins D .next { s'' with heap:=h' }) X.xe s'
 have I3p:Inv X (pins++[(C,o)]) σ (upd H' s2.heap.objs.size (.lst ys)) s':=I3.pins_of fun p hp=>by
   rcases yat.mp hp with z | z
   . exact I3.pin p (ydw _ z)
   . have e:p=(C,o):=by simpa using z
     subst e
     exact ⟨ho,fC.1,fC.2.1,fC.2.2.1,fun v z=>by rw [r.1] at z;cases z⟩
 refine wpAny_assign_Name (qde I3p hN hyi (.inl hy) (v := .ref s2.heap.objs.size) rfl (fun s4 I4=>?_) (.inr hy))
 have a4:=I4.pin (C,o) (ydw _ (ydw _ (by simp)))
 refine ⟨m,⟨o,es,ep,a4.1,r⟩,fun h' hs'=>⟨_,_,?_,zz.2 _ en⟩⟩
 exact (I4.unpinned).turned (t':=s4.toks) (fun b o' hb q=>hs'.extBut b o' hb q) fC.1 fC.2.1 fC.2.2.2.1 fC.2.2.2.2.1 fC.2.2.2.2.2
end
end L2
namespace Tx
open PySem
def rS (ws:List Str) (z:Str):Option Nat :=
 if Txt.split z "+" = [("-" : Str)] then some 0 else
 if (∀w∈Txt.split z "+",w∈ws)/\((Txt.split z "+").map fun w=>ws.idxOf w).Pairwise (· < ·) then some (Fam.ofN ((Txt.split z "+").map fun w=>ws.idxOf w)) else none
def rF (ws:List Str) (z:Str):Option (List Nat) :=
 if Txt.split z " " = [("none" : Str)] then some [] else
 if (∀p∈Txt.split z " ",(rS ws p).isSome=true)/\((Txt.split z " ").map fun p=>(rS ws p).getD 0).length<=70/\((Txt.split z " ").map fun p=>(rS ws p).getD 0).Pairwise (· < ·) then some ((Txt.split z " ").map fun p=>(rS ws p).getD 0) else none
section
variable {ws:List Str} {a b:Nat}
theorem qoo {c:Nat}:∀{xs ys:List (List Nat)},xs≠[]->ys≠[]->jn c xs++c::jn c ys=jn c (xs++ys)
 | [],_,h,_=>absurd rfl h
 | [x],ys,_,h=>by
   show x++c::jn c ys=jn c (x::ys)
   rw [jn_cons h]
 | x::y::r,ys,_,h=>by
   show (x++c::jn c (y::r))++c::jn c ys=jn c (x::((y::r)++ys))
   rw [jn_cons (x:=x) (r:=y::r++ys) (by simp),ycd,yeu,qoo (xs:=y::r) (by simp) h]
theorem join_app {c:Nat} {xs ys:List Str} (h1:xs≠[]) (h2:ys≠[]):Txt.join ⟨#[c]⟩ xs++⟨#[c]⟩++Txt.join ⟨#[c]⟩ ys=Txt.join ⟨#[c]⟩ (xs++ys):=by
 refine ext ?_
 rw [sg_app,sg_app,txt_join,txt_join,txt_join,ycl,<-qoo (by simpa using h1) (by simpa using h2),ycd]
 rfl
theorem join_one {c:Nat} (w:Str):Txt.join ⟨#[c]⟩ [w]=w:=rfl
theorem qnB (h:Wds ws):("-" : Str)∉ws:=fun z=>by
 have:=(h.wd _ z).2.2 45 (by rw [lit_dash];exact ybb)
 omega
theorem rS_sT (h:Wds ws) (ha:a<2^ws.length):rS ws (sT ws a)=some a:=by
 unfold rS
 rw [qny h ha]
 by_cases c:a=0
 . rw [if_pos c,if_pos rfl,c]
 . rw [if_neg c,if_neg,if_pos,qmt h ha,Fam.ofN_nms (lt256 h ha)]
   . rw [qmt h ha]
     exact ⟨fun w hw=>wds_mem h ha hw,Fam.nms_rise 8 a⟩
   . intro z
     exact qnB h (wds_mem h ha (by rw [z];exact ybb))
theorem rS_lt (h:Wds ws) {z:Str} (e:rS ws z=some a):a<2^ws.length:=by
 unfold rS at e
 split at e
 . cases e
   exact yah _
 . split at e
   . rename_i c
     cases e
     refine Fam.ofN_lt fun k hk=>?_
     obtain ⟨w,hw,rfl⟩:=ybn.mp hk
     exact yfs (c.1 w hw)
   . cases e
theorem qrT (h:Wds ws) {fs:List Nat} (hf:∀b∈fs,b<2^ws.length):(fs.map (sT ws)).map (fun p=>(rS ws p).getD 0)=fs:=by
 rw [ydg]
 conv=>rhs;rw [<-yfd fs]
 refine yfe fun x hx=>?_
 show (rS ws (sT ws x)).getD 0=x
 rw [rS_sT h (hf x hx)]
 rfl
theorem qqX (h:Wds ws) {fs:List Nat} (hf:∀b∈fs,b<2^ws.length):∀p∈fs.map (sT ws),(rS ws p).isSome=true:=fun p hp=>by
 obtain ⟨x,hx,rfl⟩:=ybn.mp hp
 rw [rS_sT h (hf x hx)]
 rfl
theorem rF_fT (h:Wds ws) {fs:List Nat} (hf:∀b∈fs,b<2^ws.length) (hr:fs.Pairwise (· < ·)) (hl:fs.length<=70):rF ws (fT ws fs)=some fs:=by
 unfold rF
 rw [split_fT h hf]
 by_cases c:fs=[]
 . rw [if_pos c,if_pos rfl,c]
 . rw [if_neg c,if_neg,qrT h hf,if_pos ⟨qqX h hf,hl,hr⟩]
   intro z
   have hm:("none" : Str)∈fs.map (sT ws):=by rw [z];exact ybb
   obtain ⟨x,hx,e⟩:=ybn.mp hm
   exact qqs h (hf x hx) e
theorem fT_one:fT ws [a]=sT ws a:=by
 unfold fT
 rw [if_neg (by simp)]
 rfl
theorem split_len (z:Str) (c:Nat):(Txt.split z ⟨#[c]⟩).length<=z.length+1:=by
 have e1:=StrLaws.join_split z ⟨#[c]⟩
 have e2:=congrArg sg e1
 rw [sg_join] at e2
 have:∀xs:List (List Nat),xs.length<=(jn c xs).length+1:=by
   intro xs
   induction xs with
   | nil=>exact ybv _
   | cons x r ih =>
     cases r with
     | nil=>exact ydo _ _
     | cons y r =>
       show (y::r).length+1<=(x++c::jn c (y::r)).length+1
       rw [ycm,yea (as:=jn c (y::r))]
       omega
 have h:=this ((Txt.split z ⟨#[c]⟩).map sg)
 rw [e2,ycj,len_sg] at h
 exact h
theorem part_len (z:Str) (c:Nat):∀p∈Txt.split z ⟨#[c]⟩,p.length<=z.length:=by
 have e1:=StrLaws.join_split z ⟨#[c]⟩
 have e2:=congrArg sg e1
 rw [sg_join] at e2
 have:∀xs:List (List Nat),∀x∈xs,x.length<=(jn c xs).length:=by
   intro xs
   induction xs with
   | nil=>intro x hx;cases hx
   | cons x r ih =>
     intro y hy
     cases r with
     | nil=>rw [ydi.mp hy];exact yax _
     | cons y' r =>
       show _<=(x++c::jn c (y'::r)).length
       rw [ycm,yea]
       rcases ybd.mp hy with rfl | hy
       . omega
       . have:=ih y hy
         omega
 intro p hp
 have h:=this ((Txt.split z ⟨#[c]⟩).map sg) (sg p) (ybn.mpr ⟨p,hp,rfl⟩)
 rw [e2,len_sg,len_sg] at h
 exact h
end
end Tx
namespace L2
open PySem PySem.Spec PyProof.Rows
section
variable {X:Cx} {K:PySem.W.Frag}
theorem qcS:qch (CX1 X.prog X.w) X fun _ _ _=>False:=fun _ _ _ _ _ _ _ ⟨_,_,_,_,_,_,_,_,_,_,_,_,_,_,_,q⟩=>q.elim
end
end L2
namespace L2
open PySem PySem.Spec PyProof.Rows
section
variable {X:Cx} {e a b o:Expr} {es:List Expr} {te ta tb to:TE} {t:TA} {pos apos cpos:Pos}
end
def As (z:Str):Prop:=∀c∈Tx.sg z,c<128
section
variable {X:Cx}
theorem qjm:∀(l:List (Array Nat)) (acc:Array Nat),(l.foldl (·++·) acc).toList=acc.toList++(l.map Array.toList).flatten
 | [],acc=>by simp
 | x::l,acc=>by
   rw [ybk,qjm l]
   simp
def qpr:R2:=fun x y H Q=>∃(z:Str) (n:Nat),x = .str z/\y = .int (n:Nat)/\1<=n/\n<=100/\z.length<=100/\∀r:Str,(∀c∈Tx.sg r,c∈Tx.sg z)->r.length=n*z.length->Q (.str r) H
theorem qo4:OpR X (binaryOp .Mult) qpr:=by
 intro pins s σ H x y v u Q I rx ry h
 obtain ⟨z,n,rfl,rfl,h1,h2,hz,q⟩:=h
 obtain ⟨t,rfl⟩:=rx
 obtain ⟨t',rfl⟩:=ry
 have e24:sizeLine=16777216:=sizeLine_eq
 have hm:z.length*n<=100*100:=yfm hz h2
 refine P.mul_str (by rw [decide_eq_false (by omega),decide_eq_false (by omega)];rfl) (fun _ _=>?_) (fun _ _=>?_) ?_
 . have:((2:Int)^63-1)/100<=((2:Int)^63-1)/(n:Int):=by
     refine Int.le_ediv_of_mul_le (by omega) ?_
     have:((2:Int)^63-1)/100*(n:Int)<=((2:Int)^63-1)/100*100:=Int.mul_le_mul_of_nonneg_left (by omega) (by decide)
     omega
   omega
 . unfold Builtin.Str.tooLong
   rw [yel]
   exact decide_eq_false (by omega)
 . rw [if_neg (by omega)]
   by_cases c:(((n:Int)==1)||z.length==0)=true
   . rw [if_pos c]
     refine ⟨.str z,H,I,⟨_,rfl⟩,q z (fun _ hc=>hc) ?_⟩
     simp only [yex,beq_iff_eq] at c
     rcases c with c | c
     . rw [show n=1 by omega,yfl]
     . rw [c,Nat.mul_zero]
   . rw [if_neg c]
     have el:Tx.sg (⟨(List.replicate (n:Int).toNat z.cps).foldl (·++·) #[]⟩:Str)=(List.replicate n (Tx.sg z)).flatten:=by
       show ((List.replicate (n:Int).toNat z.cps).foldl (·++·) #[]).toList=_
       rw [qjm,yft,yel]
       rfl
     have ll:(⟨(List.replicate (n:Int).toNat z.cps).foldl (·++·) #[]⟩:Str).length=n*z.length:=by
       rw [<-Tx.len_sg,el,List.length_flatten,yft,List.sum_replicate_nat,Tx.len_sg]
     refine ⟨?_,.str _,H,I.tok _,I.ts _,q _ (fun d hd=>?_) ll⟩
     . rw [ll,Nat.mul_comm]
       omega
     . rw [el] at hd
       obtain ⟨l,hl,hd⟩:=yfp.mp hd
       rw [(List.mem_replicate.mp hl).2] at hd
       exact hd
end
theorem qoK {c d:Nat}:∀{xs:List (List Nat)} {x:List Nat},x∈xs->d∈x->d∈Tx.jn c xs
 | [y],x,hx,hd=>by rw [ydi.mp hx] at hd;exact hd
 | y::y'::r,x,hx,hd=>by
   show d∈y++c::Tx.jn c (y'::r)
   rcases ybd.mp hx with rfl | hx
   . exact yas _ hd
   . exact ydw _ (ybe _ (qoK hx hd))
theorem qkt {z:Str} (h:As z) (c:Nat):∀p∈Txt.split z ⟨#[c]⟩,As p:=fun p hp d hd=>by
 have e2:=congrArg Tx.sg (StrLaws.join_split z ⟨#[c]⟩)
 rw [Tx.sg_join] at e2
 exact h d (e2▸qoK (ybn.mpr ⟨p,hp,rfl⟩) hd)
theorem qh8 {c:Nat} (hc:c<128) {ys:List Str} (h:∀y∈ys,As y):As (Txt.join ⟨#[c]⟩ ys):=fun d hd=>by
 rw [Tx.txt_join] at hd
 rcases Tx.jn_mem hd with e | ⟨x,hx,hd⟩
 . omega
 . obtain ⟨y,hy,rfl⟩:=ybn.mp hx
   exact h y hy d hd
theorem qpq {w:Str} (h:Tx.Wd w):As w:=fun c hc=>by
 have:=h.2.2 c hc
 omega
end L2
namespace L2
open PySem PySem.Spec PyProof.Rows
def wdB (z:Str):Bool:=decide (1<=z.length)&&decide (z.length<=8)&&(Tx.sg z).all fun c=>decide (97<=c)&&decide (c<=122)
theorem qfo {z:Str}:wdB z=true↔Tx.Wd z:=by
 unfold wdB Tx.Wd
 rw [yab,yab,decide_eq_true_eq,decide_eq_true_eq,ybf]
 constructor
 . rintro ⟨⟨h1,h2⟩,h3⟩
   refine ⟨h1,h2,fun c hc=>?_⟩
   have:=h3 c hc
   rwa [yab,decide_eq_true_eq,decide_eq_true_eq] at this
 . rintro ⟨h1,h2,h3⟩
   refine ⟨⟨h1,h2⟩,fun c hc=>?_⟩
   rw [yab,decide_eq_true_eq,decide_eq_true_eq]
   exact h3 c hc
theorem qtj (x:Nat):(!decide ((⟨#[x]⟩:Str).cps.toList<("a" : Str).cps.toList))=decide (97<=x):=by
 have e:("a" : Str).cps.toList=[97]:=by decide +kernel
 rw [e]
 show (!decide ([x] < [97]))=_
 rw [StrLaws.lt_cons_cons,StrLaws.lt_nil_nil]
 by_cases h:97<=x
 . rw [decide_eq_false (show ¬x<97 by omega),decide_eq_true h]
   simp
 . rw [decide_eq_true (show x<97 by omega),decide_eq_false h]
   simp
theorem qsQ (x:Nat):(!decide (("z" : Str).cps.toList<(⟨#[x]⟩:Str).cps.toList))=decide (x<=122):=by
 have e:("z" : Str).cps.toList=[122]:=by decide +kernel
 rw [e]
 show (!decide ([122] < [x]))=_
 rw [StrLaws.lt_cons_cons,StrLaws.lt_nil_nil]
 by_cases h:x<=122
 . rw [decide_eq_false (show ¬122<x by omega),decide_eq_true h]
   simp
 . rw [decide_eq_true (show 122<x by omega),decide_eq_false h]
   simp
def rN (z:Str):Option (List Str) :=
 if Txt.split z " " = [("" : Str)] then some [] else
 if ((Txt.split z " ").all fun w=>wdB w&&!decide (w=("none" : Str)))=true/\(Txt.split z " ").length<=8/\cnt (Txt.split z " ")=(Txt.split z " ").length then some (Txt.split z " ") else none
theorem qqz (ys:List Str):cnt ys<=ys.length:=qfG _ _
theorem qkQ {ws:List Str} (hw:Tx.Wds ws):rN (Txt.join " " ws)=some ws:=by
 unfold rN
 by_cases h0:ws=[]
 . subst h0
   rw [if_pos (by decide +kernel)]
 . have e:Txt.split (Txt.join (" " : Str) ws) " " = ws:=by
     rw [Tx.lit_space]
     exact Tx.split_join h0 fun w hw'=>(hw.wd w hw').free (by decide)
   rw [e,if_neg,if_pos]
   . refine ⟨?_,hw.few,qqK hw.nd⟩
     rw [ybf]
     intro w hw'
     rw [qfo.mpr (hw.wd w hw'),decide_eq_false fun z=>hw.no (by rw [<-z];exact hw')]
     rfl
   . intro z
     have hm:=hw.wd "" (by rw [z];exact ybb)
     have:=hm.1
     rw [Tx.lit_empty] at this
     exact absurd this (by decide)
def qtu (r:V->Hp->VK->XK->Prop):Sp:=fun vs H Q E=>∃x,vs=[x]/\r x H Q E
def sp0 (r:Hp->VK->Prop):Sp:=fun vs H Q _=>vs=[]/\r H Q
theorem qmq {t:String} (h:t ≠ "str"):qkg t "str" = false:=by
 unfold qkg
 rw [show (t == "str")=false from beq_eq_false_iff_ne.mpr h]
 cases (t == "bool")<;>rfl
theorem qd2 {H H':Hp} (s:qas H H') {v:V} {t:String} (h:qdZ H v=some t):qdZ H' v=some t:=by
 cases v with
 | ref a =>
   unfold qdZ at h ⊢
   dsimp only at h ⊢
   cases e:H a with
   | none=>rw [e] at h;cases h
   | some o=>rw [s a o e];rw [e] at h;exact h
 | _=>exact h
theorem qiT {X:Cx} {x:Str} {p pos:Pos} {k j:Nat} {ps:List Str} {sp:Sp} {f:Addr} {fd:FuncData} (C:Cal X.prog X.w X.K X.mg X.base x k ps sp f fd) (hr:qc3 j X.A) (hj:k<=j) (hg:Gl X x) (hdb:(x==("__debug__" : Str))=false:=by decide) :
 PE X (.Call (.Name x p) [] [] pos) (qiH sp [] E0 qqY):=qnu C.ok (hr.mono hj) hg C.mg C.kp C.bd .nil qra hdb
end L2
namespace L2
open PySem PySem.Spec PyProof.Rows
section
variable {K:PySem.W.Frag} {n k:Nat} {H0 H H1:Hp} {pl:Addr} {ys:List V} {Q:VK}
end
end L2
namespace L2
open PySem PySem.Spec PyProof.Rows
theorem qsn {c:Nat}:∀xs:List (List Nat),(Tx.jn c xs.reverse).length=(Tx.jn c xs).length:=by
 have tot:∀xs:List (List Nat),(Tx.jn c xs).length+(if xs=[] then 1 else 0)+1=(xs.map fun x=>x.length+1).sum+(if xs=[] then 2 else 0):=by
   intro xs
   induction xs with
   | nil=>rfl
   | cons x r ih =>
     cases r with
     | nil=>simp [Tx.jn]
     | cons y r =>
       rw [Tx.jn_cons (by simp),ycm,yea]
       rw [if_neg (by simp),if_neg (by simp)] at ih ⊢
       rw [ych,List.sum_cons]
       omega
 intro xs
 have h1:=tot xs
 have h2:=tot xs.reverse
 have e:(xs.reverse.map fun x=>x.length+1).sum=(xs.map fun x=>x.length+1).sum:=by
   rw [List.map_reverse,List.sum_reverse]
 rw [e] at h2
 by_cases h0:xs=[]
 . rw [h0];rfl
 . rw [if_neg h0,if_neg h0] at h1
   rw [if_neg (by simpa using h0),if_neg (by simpa using h0)] at h2
   omega
theorem turned {z:Str} (h:As z) {c:Nat} (hc:c<128):As (Txt.join ⟨#[c]⟩ (Txt.split z ⟨#[c]⟩).reverse)/\(Txt.join ⟨#[c]⟩ (Txt.split z ⟨#[c]⟩).reverse).length=z.length:=by
 refine ⟨qh8 hc fun y hy=>qkt h c y (List.mem_reverse.mp hy),?_⟩
 have e2:=congrArg Tx.sg (StrLaws.join_split z ⟨#[c]⟩)
 rw [Tx.sg_join] at e2
 rw [<-Tx.len_sg,Tx.txt_join,List.map_reverse,qsn,e2,Tx.len_sg]
theorem noneT_iff {z:Str}:Txt.split z " " = [("none" : Str)]↔z = "none" := by
 constructor
 . intro h
   have e1:=StrLaws.join_split z " "
   rw [h] at e1
   exact e1.symm
 . rintro rfl
   decide +kernel
theorem qm1 {c:Nat}:∀{L:List Nat},L.Nodup->(∀x∈L,x=c)->c∈L->L=[c]
 | [],_,_,h=>by cases h
 | x::r,nd,h,_=>by
   have e:=h x ybb
   subst e
   cases r with
   | nil=>rfl
   | cons y r =>
     have:=h y (ybe _ ybb)
     subst this
     exact absurd ybb (yeb.mp nd).1
theorem qcf {ws:List Str} (nd:ws.Nodup) (w:Str):(List.range ws.length).filter (fun k=>decide (ws.getD k Str.empty=w))=if w∈ws then [ws.idxOf w] else []:=by
 have at':∀k,k<ws.length->ws[k]?=some (ws.getD k Str.empty):=fun k hk=>by rw [yey,ydc hk];rfl
 by_cases h:w∈ws
 . rw [if_pos h]
   have hl:=yfs h
   refine qm1 (List.nodup_range.sublist yba) (fun x hx=>?_) ?_
   . obtain ⟨h1,h2⟩:=yay.mp hx
     have h1:=ybh.mp h1
     have h2:=of_decide_eq_true h2
     have e1:=at' x h1
     have e2:ws[ws.idxOf w]?=some w:=by rw [ydc hl,yfu]
     rw [h2] at e1
     obtain ⟨q1,q2⟩:=ybr.mp e1
     obtain ⟨q3,q4⟩:=ybr.mp e2
     exact (ydr nd).mp (q2.trans q4.symm)
   . refine yay.mpr ⟨ybh.mpr hl,decide_eq_true ?_⟩
     have e2:ws[ws.idxOf w]?=some w:=by rw [ydc hl,yfu]
     have:=at' _ hl
     rw [e2] at this
     exact (Option.some.inj this).symm
 . rw [if_neg h,yfn]
   intro k hk z
   have z:=of_decide_eq_true z
   exact h (z▸ydk (at' k (ybh.mp hk)))
theorem qjd (L:List Nat) (k:Nat):Fam.ofN (L++[k])=Fam.ofN L|||2^k:=by
 unfold Fam.ofN
 rw [yaq]
 rfl
def vO (o:Option Nat):V:=match o with | some b => .int (b:Nat) | none => .non
end L2
namespace L2
open PySem PySem.Spec PyProof.Rows
theorem qkr:∀(n:Nat) (A:List Int),A.Nodup->(∀x∈A,0<=x/\x<(n:Int))->A.length<=n
 | 0,A,_,h=>by
   cases A with
   | nil=>exact yax _
   | cons x r=>have:=h x ybb;omega
 | n+1,A,nd,h=>by
   have ih:=qkr n (A.erase (n:Int)) (nd.erase _) fun x hx=>by
     have h1:=h x (List.mem_of_mem_erase hx)
     have h2:x≠(n:Int):=fun e=>by
       subst e
       exact (List.Nodup.not_mem_erase nd) hx
     omega
   by_cases hm:(n:Int)∈A
   . rw [yfc hm] at ih
     omega
   . rw [List.erase_of_not_mem hm] at ih
     omega
theorem qlQ {ns:List Int} {n:Nat} (h:∀x∈ns,0<=x/\x<(n:Int)):(qdS ns).length<=n:=qkr n _ (qfK ns) fun x hx=>h x (qdU.mp hx)
theorem qkY {ws P:List Str} {N:Nat} (h8:ws.length<=8) (m:∀w∈P,w∈ws) (hN:8<=N):(qdS (nI (P.map fun w=>ws.idxOf w))).length<=N:=by
 refine ybt (qlQ (n:=8) fun x hx=>?_) hN
 obtain ⟨k,hk,rfl⟩:=ybn.mp hx
 obtain ⟨w,hw,rfl⟩:=ybn.mp hk
 have:=yfs (m w hw)
 omega
end L2
namespace Fam
end Fam
namespace L2
open PySem PySem.Spec PyProof.Rows
section
variable {K:PySem.W.Frag} {g:TG} {tb:TS} {D:qeY} {σ:L2.St} {H:Hp} {a:Addr} {ta:TA}
end
inductive Pap (H:Hp) (fs gs:List Nat) (m:Nat):Nat->Nat->Nat->Addr->Prop
 | one {n ti to:Nat} {t:Addr} {j b:Nat} (h:H t=some (.tup [.str "one",.int (j:Nat)])) (h1:fs[j]?=some b) (h2:Fam.sub b ti):Pap H fs gs m (n+1) ti to t
 | other {n ti to:Nat} {t:Addr} {j b:Nat} (h:H t=some (.tup [.str "other",.int (j:Nat)])) (h1:gs[j]?=some b) (h2:Fam.sub b to):Pap H fs gs m (n+1) ti to t
 | name {n ti to:Nat} {t u v:Addr} {k:Nat} (h:H t=some (.tup [.str "name",.int (k:Nat),.ref u,.ref v])) (hk:k<m) (h1:ti.testBit k=false) (h2:to.testBit k=false) (p1:Pap H fs gs m n (ti|||2^k) to u) (p2:Pap H fs gs m n ti (to|||2^k) v):Pap H fs gs m (n+1) ti to t
end L2
namespace L2
open PySem PySem.Spec PyProof.Rows
section
variable {X:Cx} {pins:List (Addr×Obj)} {σ:St} {H:Hp} {s:Shared} {h':Heap} {K:PySem.W.Frag}
theorem Inv.turnedL {t':Nat} {ch:List Addr} (I:Inv X pins σ H s) (k:∀b o,b∉ch->s.heap.get? b=some o->h'.get? b=some o) (f:∀b∈ch,qh3 X pins H b) (ht:1<=t':=by first | exact ydo 1 _ | assumption | exact Inv.tk (by assumption) | omega):Inv X pins σ H { s with heap:=h',toks:=t' }:=by
 have nit:∀b u,H b=some u->b∉ch:=fun b u q z=>by rw [(f b z).1] at q;cases q
 refine I.step (g':=s.gens) (d':=s.drawn) (ch:=ch) (fun b hb=>⟨(f b hb).2.2.2.1,(f b hb).2.1,(f b hb).2.2.2.2.1,(f b hb).2.2.2.2.2⟩) (fun b o _ _ hc q _=>k b o hc q) (fun b o _ _ hc q _=>⟨o.slots,k b o hc q⟩) (fun _ _ _ _ n=>n)
   (fun b o hc q=>⟨o,k b o hc q⟩) (fun _ _ q=>q) (fun _ _ _ q=>q) (fun b ps q=>⟨#[],by rw [q];simp⟩) (fun m hm=>?_) (fun b u q=>?_) I.bare
 . obtain ⟨o,es,ep,ho,r⟩:=hm
   exact ⟨o,es,ep,k _ o (fun z=>(f _ z).2.1 rfl) ho,r⟩
 . refine (I.hok b u q).stay (fun c v hc z=>k c v ?_ z) (fun _ z=>z) fun _ _ z=>z
   rcases hc with y | y
   . rw [y];exact nit b u q
   . exact nit c _ y
end
section
variable {K:PySem.W.Frag} {g:TG} {tb:TS} {D:qeY} {σ:L2.St} {H:Hp} {a b:Addr} {ta:TA}
end
end L2
namespace L2
open PySem PySem.Spec PyProof.Rows
def KDt (P:Program) (w:World) (K:PySem.W.Frag) (a:Addr) (kvs:List (Key×V)):Prop :=
 (a==sysModules)=false/\∃(o:Obj) (vs:List (Key×Value)),K.lookup a=some o/\KV kvs vs/\∀h:Heap,h.get? a=some o->h.DictOf (qbd P w) a vs
section
variable {X:Cx} {pins:List (Addr×Obj)} {σ:St} {H:Hp} {s:Shared} {a:Addr} {kvs:List (Key×V)} {P:Program} {w:World} {K:PySem.W.Frag}
theorem Inv.kdt (I:Inv X pins σ H s) (h:KDt X.prog X.w X.K a kvs):(a==sysModules)=false/\∃vs,KV kvs vs/\s.heap.DictOf (qbd X.prog X.w) a vs:=by
 obtain ⟨z,o,vs,lk,r,d⟩:=h
 exact ⟨z,vs,r,d _ (I.kIn a o lk)⟩
def qrg (P:Program) (w:World) (K:PySem.W.Frag) (td ty:TE):TE:=fun σ H Q=>td σ H fun x H1=>ty σ H1 fun y H2=>∃(a:Addr) (kvs:List (Key×V)) (k:Key) (v:V),x = .ref a/\y=kV k/\KDt P w K a kvs/\qc0 kvs k=some v/\Q v H2
def qsm (P:Program) (w:World) (K:PySem.W.Frag) (ty td:TE):TE:=fun σ H Q=>ty σ H fun y H1=>td σ H1 fun x H2=>∃(a:Addr) (kvs:List (Key×V)) (k:Key),x = .ref a/\y=kV k/\KDt P w K a kvs/\Q (.bl (!(qc0 kvs k).isSome)) H2
variable {o i:Expr} {pos:Pos} {td ty:TE}
theorem qiE (hP:X.prog=P) (hw:X.w=w) (hK:X.K=K) (ho:PE X o td) (hi:PE X i ty) (hs:qtq i):PE X (.Subscript o i pos) (qrg P w K td ty):=by
 subst hP hw hK
 intro pins s σ H Q I h
 refine qlr yev.lookup hs (thn (ho pins s σ H _ I h) fun u s1 ⟨x,H1,I1,rx,q1⟩=>thn (hi pins s1 σ H1 _ I1 q1) fun iv s2 ⟨y,H2,I2,ry,b,kvs,k,v,ex,ey,g,hv,q2⟩=>?_)
 subst ex ey
 obtain rfl:u=Value.ref b:=rx
 obtain ⟨_,vs,rel,dd⟩:=I2.kdt g
 obtain ⟨w',hw,rw'⟩:=qhH.some_of (v:=v) (o:=valueAt vs k) (by rw [<-hv];exact rel.val k)
 exact ⟨dd.typeIs,wpAny_getItem_of (qjI ry) dd.mapOf hw ⟨v,H2,I2.tok _,rw',q2⟩⟩
theorem qoR (hP:X.prog=P) (hw:X.w=w) (hK:X.K=K) (hi:PE X i ty) (ho:PE X o td):PC X .NotIn i o (qsm P w K ty td):=by
 subst hP hw hK
 intro pins s σ H Q I h
 refine thn (hi pins s σ H _ I h) fun iv s1 ⟨y,H1,I1,ry,q1⟩=>thn (ho pins s1 σ H1 _ I1 q1) fun u s2 ⟨x,H2,I2,rx,b,kvs,k,ex,ey,g,q2⟩=>?_
 subst ex ey
 obtain rfl:u=Value.ref b:=rx
 obtain ⟨hd,vs,rel,dd⟩:=I2.kdt g
 refine wpAny_notIn_of (qjI ry) hd dd.mapOf ?_
 rw [<-(rel.val k).isSome_eq]
 exact ⟨.bl _,H2,I2.tok _,rfl,q2⟩
end
section
variable {X:Cx}
def qpF:V->List V->Hp->VK->Prop:=fun x vs H Q=>∃(z y:Str) (n:Nat),x = .str z/\vs=[.str y,.int (n:Nat)]/\(y.length==0)=false/\z.length<=100000/\n<=1000/\∀l,H l=none->Q (.ref l) (upd H l (.lst (sV (Txt.splitMax z y (n:Int)))))
theorem qsh (z y:Str) (n:Int):(Txt.splitMax z y n).length<=z.length+2:=by
 unfold Txt.splitMax
 split
 . exact ydo _ _
 . split
   . exact ydo _ _
   . have e1:=StrLaws.occ_length_le_len z y 0 z.length (limitOf z n)
     rw [length_partsBetween]
     omega
theorem qk2:MtM X "str.split" qpF:=by
 intro pins s σ H x vs v us Q I rx rv h
 obtain ⟨z,y,n,rfl,rfl,hy,hz,hn,q⟩:=h
 obtain ⟨t,rfl⟩:=rx
 obtain ⟨u,u3,rfl,ru,ru3⟩:=qj4 rv
 obtain ⟨t2,rfl⟩:=ru
 obtain ⟨t3,rfl⟩:=ru3
 have hl:=qsh z y (n:Int)
 have e24:sizeLine=16777216:=sizeLine_eq
 have hk:(decide ((n:Int) < -(2^63:Int))||decide ((n:Int)≥2^63))=false:=by
   rw [decide_eq_false (by omega),decide_eq_false (by omega)]
   rfl
 have fin:∀(l:List (Str×Tok)) (k:Nat),l.map (·.1)=Txt.splitMax z y (n:Int)->(∀p∈l,1<=p.2)->1<=k->EP X pins σ Q (.ref s.heap.objs.size) { s with heap:=s.heap.push { cls := .type "list",data := .seq (strValues l).toArray },toks:=k }:=fun l k e hp hk =>
   ⟨.ref s.heap.objs.size,_,I.lnew (ys:=sV (Txt.splitMax z y (n:Int))) (ht:=hk) (t':=k) (by rw [<-e];exact qfw l hp) (by rw [ycj];omega),rfl,q _ I.fresh⟩
 have hz1:∀p∈[(z,t+1)],1<=p.2:=fun p hp=>by rw [ydi.mp hp];exact ydo 1 _
 cases h1:(decide (z.length<y.length)||decide (Builtin.Str.strKind z<Builtin.Str.strKind y)) with
 | true=>exact call_meets F.slot_str_split (typeIs_str _ _ _) F.entry_str_split (F.args_str_split_3 _ _ _) (meets_str_split_max_cannot_occur z y n _ _ t3 hk h1) (fin [(z,_)] s.toks (if_pos h1).symm hz1 I.tk)
 | false =>
   cases h2:(Builtin.Str.occurrences z y 0 z.length (limitOf z n)).isEmpty with
   | true=>exact call_meets F.slot_str_split (typeIs_str _ _ _) F.entry_str_split (F.args_str_split_3 _ _ _) (meets_str_split_max_not_found z y n _ _ t3 hk h1 hy h2) (fin [(z,_)] s.toks ((if_neg (ne_true_of_eq_false h1)).trans (if_pos h2)).symm hz1 I.tk)
   | false =>
     have es:Txt.splitMax z y (n:Int)=Builtin.Str.partsBetween z (Builtin.Str.occurrences z y 0 z.length (limitOf z n)) y.length:=(if_neg (ne_true_of_eq_false h1)).trans (if_neg (ne_true_of_eq_false h2))
     refine call_meets F.slot_str_split (typeIs_str _ _ _) F.entry_str_split (F.args_str_split_3 _ _ _) (meets_str_split_sep_max z y n _ _ t3 hk h1 hy h2 (by omega) (by rw [<-es];omega)) ?_
     rw [strsFrom_eq]
     exact fin (numbered s.toks _) _ ((numbered_texts _ _).trans es.symm) (qiR I.tk _) (ybt I.tk (ycf _ _))
end
end L2
namespace L2
open PySem PySem.Spec PyProof.Rows
structure Drw (P:Program) (w:World) (it src:Addr) (tn:Nat->Heap->Prop) (vs:Array Value):Prop where
 item:∀{A:Around} {E:Value->Shared->Prop} {s:Shared} {k:Nat} {x:Value} {Q:Value->Shared->Prop},tn k s.heap->vs[k]?=some x->(∀g,tn (k+1) g->Heap.SameBut it s.heap g->Q x { s with heap:=g })->wpAny (model P w) A (Builtin.SmallTypes.nextOf (.ref it)) Q E s
 stop:∀{A:Around} {E:Value->Shared->Prop} {s:Shared} {k:Nat} {Q:Value->Shared->Prop},A.handled=none->tn k s.heap->vs[k]?=none->(∀g e,Heap.ExtBut it s.heap g->(∃o,g.get? e=some o/\o.cls = .type "StopIteration")->E (.ref e) { s with heap:=g })->wpAny (model P w) A (Builtin.SmallTypes.nextOf (.ref it)) Q E s
 keep:∀{k:Nat} {h g:Heap},tn k h->(∀b o,(b=it\/b=src)->h.get? b=some o->g.get? b=some o)->tn k g
 rcd:∀{k:Nat} {h:Heap},tn k h->∃o,h.get? it=some o/\∀v,o.data ≠ .cell v
section
variable {P:Program} {w:World} {it src:Addr} {vs:Array Value}
theorem Drw.list (ne:src≠it):Drw P w it src (fun k h=>h.IsListIter it src k/\h.IsList src vs) vs where
 item:=fun ⟨h1,h2⟩ hx q=>wpAny_nextOf_list_item h1 h2 hx fun g a b=>q g ⟨a,h2.extBut b.extBut ne⟩ b
 stop:=fun hh ⟨h1,h2⟩ hx q=>wpAny_nextOf_list_end hh h1 h2 hx q
 keep:=fun ⟨h1,h2⟩ k=>⟨h1.at fun o e=>k it o (.inl rfl) e,h2.at fun o e=>k src o (.inr rfl) e⟩
 rcd:=fun ⟨⟨o,e,_,d⟩,_⟩=>⟨o,e,fun v z=>by rw [d] at z;cases z⟩
theorem Drw.tup (ne:src≠it):Drw P w it src (fun k h=>IsTupIter h it src k/\IsTup h src vs) vs where
 item:=by
   rintro A E s k x Q ⟨h1,h2⟩ hx q
   obtain ⟨oi,gi,ci,di⟩:=id h1
   obtain ⟨ot,gt,ct,nt,dt⟩:=id h2
   unfold Builtin.SmallTypes.nextOf
   refine wpAny_bind (wpAny_callSpecial?_slot (name:=Str.ofString "__next__") h1.typeIs slot_tupleiter_next (wpAny_call_entry slot_tupleiter_next h1.typeIs entry_tupleiter_next ?_ (args_tupleiter_next _)))
   show wpAny _ _ (field (.ref it) 0 >>= _) _ _ s;refine wpAny_bind (wpAny_field gi di (x := .ref src) rfl ?_)
   show wpAny _ _ (if (Value.ref src==Value.none)=true then _ else _) _ _ s;rw [if_neg (show ¬((Value.ref src==Value.none)=true) from ydu)]
   show wpAny _ _ (field (.ref it) 1 >>= _) _ _ s;refine wpAny_bind (wpAny_field gi di (x := .int k 0) rfl ?_)
   show wpAny _ _ (seqItems? (.ref src) >>= _) _ _ s;refine wpAny_bind (wpAny_seqItems gt dt ?_)
   simp only [yel,hx]
   have st:IsTupIter (s.heap.update it (Obj.mapFields (·.setIfInBounds 1 (rawInt (k+1))))) it src (k+1) :=
     ⟨_,ycn _ gi (Obj.isFreed_of_fields (Obj.data_mapFields di _)),(Obj.cls_mapFields ..).trans ci,by rw [Obj.data_mapFields di];simp [rawInt]⟩
   refine wpAny_bind (wpAny_setField gi di (by simp) (wpAny_pure ⟨x,rfl,wpAny_pure (q _ ⟨st,ot,?_,ct,nt,dt⟩ (Heap.SameBut.update ..))⟩))
   rw [yde _ _ (Ne.symm ne)]
   exact gt
 stop:=by
   rintro A E s k Q hh ⟨h1,h2⟩ hx q
   obtain ⟨oi,gi,ci,di⟩:=id h1
   obtain ⟨ot,gt,ct,nt,dt⟩:=id h2
   unfold Builtin.SmallTypes.nextOf
   refine wpAny_bind (wpAny_callSpecial?_slot (name:=Str.ofString "__next__") h1.typeIs slot_tupleiter_next (wpAny_call_entry slot_tupleiter_next h1.typeIs entry_tupleiter_next ?_ (args_tupleiter_next _)))
   show wpAny _ _ (field (.ref it) 0 >>= _) _ _ s;refine wpAny_bind (wpAny_field gi di (x := .ref src) rfl ?_)
   show wpAny _ _ (if (Value.ref src==Value.none)=true then _ else _) _ _ s;rw [if_neg (show ¬((Value.ref src==Value.none)=true) from ydu)]
   show wpAny _ _ (field (.ref it) 1 >>= _) _ _ s;refine wpAny_bind (wpAny_field gi di (x := .int k 0) rfl ?_)
   show wpAny _ _ (seqItems? (.ref src) >>= _) _ _ s;refine wpAny_bind (wpAny_seqItems gt dt ?_)
   simp only [yel,hx]
   refine wpAny_bind (wpAny_rule (wpAny_bind (wpAny_setField gi di (by simp) ?_)));show wpAny _ _ (newExc (.type "StopIteration") [] >>= _) _ _ _
   refine wpAny_bind ?_;simp only [newExc,newTuple];refine wpAny_bind (wpAny_newObj_type ?_ (by size_fits))
   refine wpAny_bind (m:=firstArgMember _ _) (wpAny_of_eq (a:=Value.none) (by first | rfl | (simp only [firstArgMember];rfl)) (wpAny_newObj_type ?_ (by size_fits)))
   simp only [raiseNew];refine wpAny_bind (wpAny_handled ?_);first | rw [show A.in1.handled=none from hh] | rw [hh]
   exact wpAny_bind (wpAny_pure (wpAny_throw (q _ _ (((Heap.SameBut.update ..).extBut.push _).push _) ⟨_,ycq _ rfl,rfl⟩)))
 keep:=fun ⟨h1,h2⟩ k=>by
   obtain ⟨oi,gi,ri⟩:=h1
   obtain ⟨ot,gt,rt⟩:=h2
   exact ⟨⟨oi,k it oi (.inl rfl) gi,ri⟩,ot,k src ot (.inr rfl) gt,rt⟩
 rcd:=fun ⟨⟨o,e,_,d⟩,_⟩=>⟨o,e,fun v z=>by rw [d] at z;cases z⟩
variable {A:Around} {E:Value->Shared->Prop} {s:Shared} {z TI TO i1 i2 l1 l2:Addr} {t1 t2:Nat->Heap->Prop} {xs ys:Array Value} {k:Nat} {a b:Value}
theorem qpJ {x y:Value} {Q:Option Value->Shared->Prop} (D:ZipApart z TI TO i1 i2 l1 l2) (D1:Drw P w i1 l1 t1 xs) (D2:Drw P w i2 l2 t2 ys)
   (hz:IsZip s.heap z TI TO .none) (hI:IsPair s.heap TI (.ref i1) (.ref i2)) (hO:IsPair s.heap TO a b) (c1:t1 k s.heap) (c2:t2 k s.heap) (hx:xs[k]?=some x) (hy:ys[k]?=some y)
   (q:∀g,IsZip g z TI TO (rawInt s.heap.objs.size)->IsPair g TO x y->t1 (k+1) g->t2 (k+1) g->IsPair g s.heap.objs.size x y->(∀c o,c≠z->c≠TO->c≠i1->c≠i2->s.heap.get? c=some o->g.get? c=some o)->Q (some (.ref s.heap.objs.size)) { s with heap:=g }) :
   wpAny (model P w) A (pyNext (.ref z)) Q E s:=by
 have tz:s.TypeIs (.ref z) "zip" := ⟨_,hz,rfl⟩
 unfold pyNext
 refine wpAny_bind (wpAny_attempt (wpAny_callSpecial?_slot (name:=Str.ofString "__next__") tz F.slot_zip_next (wpAny_call_entry F.slot_zip_next tz F.entry_zip_next ?_ (F.args_zip_next_1 _))))
 show wpAny _ _ (field (.ref z) 2 >>= _) _ _ _;refine wpAny_bind (wpAny_field hz rfl (x := .bool false) rfl ?_);show wpAny _ _ (field (.ref z) 3 >>= _) _ _ _
 refine wpAny_bind (wpAny_field hz rfl (x := .ref TI) rfl (wpAny_bind (wpAny_seqItems hI rfl ?_)));show wpAny _ _ (Builtin.SmallTypes.ownedTupleIsFree (.ref z) >>= _) _ _ _
 refine wpAny_bind ?_;unfold Builtin.SmallTypes.ownedTupleIsFree;refine wpAny_bind (wpAny_field hz rfl (x := .none) rfl (wpAny_pure ?_));simp only [if_true]
 refine wpAny_bind (wpAny_rule (wpAny_bind (wpAny_field hz rfl (x := .ref TO) rfl ?_)));refine wpAny_bind (wpAny_setField_rec hz (by simp) fun g1 e1 m1=>?_)
 replace e1:IsZip g1 z TI TO .ellipsis:=e1;refine wpAny_bind ?_;simp only [List.zipIdx_cons,List.zipIdx_nil,yej,yek]
 have c1':t1 k g1:=D1.keep c1 fun b o hb e=>m1.extBut _ _ (by rcases hb with rfl | rfl;exact D.i1z;exact D.l1z) e
 have c2':t2 k g1:=D2.keep c2 fun b o hb e=>m1.extBut _ _ (by rcases hb with rfl | rfl;exact D.i2z;exact D.l2z) e
 refine wpAny_bind (wpAny_bind (wpAny_onRaise ?_));show wpAny _ _ (Builtin.SmallTypes.nextOf (.ref i1) >>= _) _ _ _
 refine wpAny_bind (D1.item (s:={ s with heap:=g1 }) c1' hx fun g2 d1 m2=>wpAny_pure ?_)
 have o2:IsPair g2 TO a b:=m2.extBut _ _ D.TOi1 (m1.extBut _ _ D.TOz hO)
 refine wpAny_bind (wpAny_seqItems o2 rfl (wpAny_bind (wpAny_updateSeq_pair o2 fun g3 o3 m3=>wpAny_bind (wpAny_letGo (wpAny_pure ?_)))));replace o3:IsPair g3 TO x b:=o3
 have c2':t2 k g3:=D2.keep c2' fun b o hb e=>m3.extBut _ _ (by rcases hb with rfl | rfl;exact D.TOi2.symm;exact D.l2TO) (m2.extBut _ _ (by rcases hb with rfl | rfl;exact D.i12.symm;exact D.l2i1) e)
 refine wpAny_bind (wpAny_bind (wpAny_onRaise ?_));show wpAny _ _ (Builtin.SmallTypes.nextOf (.ref i2) >>= _) _ _ _
 refine wpAny_bind (D2.item (s:={ s with heap:=g3 }) c2' hy fun g4 d2 m4=>wpAny_pure ?_)
 have o4:IsPair g4 TO x b:=m4.extBut _ _ D.TOi2 o3
 refine wpAny_bind (wpAny_seqItems o4 rfl (wpAny_bind (wpAny_updateSeq_pair o4 fun g5 o5 m5=>wpAny_bind (wpAny_letGo (wpAny_pure (wpAny_pure ?_))))));replace o5:IsPair g5 TO x y:=o5
 refine wpAny_bind (wpAny_seqItems o5 rfl (wpAny_bind (wpAny_newTuple ?_)))
 have sz:g5.objs.size=s.heap.objs.size:=by rw [m5.1,m4.1,m3.1,m2.1,m1.1]
 have z5:IsZip g5 z TI TO .ellipsis:=m5.extBut _ _ D.TOz.symm (m4.extBut _ _ D.i2z.symm (m3.extBut _ _ D.TOz.symm (m2.extBut _ _ D.i1z.symm e1)))
 have old:∀c o,c≠z->c≠TO->c≠i1->c≠i2->s.heap.get? c=some o->g5.get? c=some o:=fun c o n1 n2 n3 n4 e=>m5.extBut _ _ n2 (m4.extBut _ _ n4 (m3.extBut _ _ n2 (m2.extBut _ _ n3 (m1.extBut _ _ n1 e))))
 have d1':t1 (k+1) g5:=D1.keep d1 fun b o hb e=>m5.extBut _ _ (by rcases hb with rfl | rfl;exact D.TOi1.symm;exact D.l1TO) (m4.extBut _ _ (by rcases hb with rfl | rfl;exact D.i12;exact D.l1i2) (m3.extBut _ _ (by rcases hb with rfl | rfl;exact D.TOi1.symm;exact D.l1TO) e))
 have d2':t2 (k+1) g5:=D2.keep d2 fun b o hb e=>m5.extBut _ _ (by rcases hb with rfl | rfl;exact D.TOi2.symm;exact D.l2TO) e
 have zl:z<g5.objs.size:=ycs z5
 show wpAny _ _ (Builtin.SmallTypes.ownedTupleHandOut (.ref z) (.ref g5.objs.size) >>= _) _ _ _;refine wpAny_bind ?_;unfold Builtin.SmallTypes.ownedTupleHandOut
 have z6:IsZip (g5.push { cls := .type "tuple",data := .seq #[x,y] }) z TI TO .ellipsis:=ycr _ z5
 refine wpAny_bind (wpAny_setField_rec z6 (by simp) fun g7 z7 m7=>?_);replace z7:IsZip g7 z TI TO (rawInt g5.objs.size):=z7
 refine wpAny_setField_rec z7 (by simp) fun g8 z8 m8=>?_;replace z8:IsZip g8 z TI TO (rawInt g5.objs.size):=z8
 have up:∀c o,c≠z->g5.get? c=some o->g8.get? c=some o:=fun c o n e=>m8.extBut _ _ n (m7.extBut _ _ n (ycr _ e))
 have p8:IsPair g8 g5.objs.size x y:=m8.extBut _ _ (ycx zl) (m7.extBut _ _ (ycx zl) (ycq _ rfl))
 rw [sz] at z8 p8
 refine wpAny_pure ⟨_,rfl,wpAny_pure ?_⟩
 show Q (some (.ref g5.objs.size)) _;rw [sz]
 exact q g8 z8 (up _ _ D.TOz o5) (D1.keep d1' fun b o hb e=>up b o (by rcases hb with rfl | rfl;exact D.i1z;exact D.l1z) e) (D2.keep d2' fun b o hb e=>up b o (by rcases hb with rfl | rfl;exact D.i2z;exact D.l2z) e) p8 fun c o n1 n2 n3 n4 e=>up c o n1 (old c o n1 n2 n3 n4 e)
theorem qpm {Q:Option Value->Shared->Prop} (hh:A.handled=none) (D:ZipApart z TI TO i1 i2 l1 l2) (D1:Drw P w i1 l1 t1 xs)
   (hz:IsZip s.heap z TI TO .none) (hI:IsPair s.heap TI (.ref i1) (.ref i2)) (hO:IsPair s.heap TO a b) (c1:t1 k s.heap) (hx:xs[k]?=none)
   (q:∀g,(∀c o,c≠z->c≠TO->c≠i1->c≠i2->s.heap.get? c=some o->g.get? c=some o)->Q none { s with heap:=g }):wpAny (model P w) A (pyNext (.ref z)) Q E s:=by
 have tz:s.TypeIs (.ref z) "zip" := ⟨_,hz,rfl⟩
 unfold pyNext
 refine wpAny_bind (wpAny_attempt (wpAny_callSpecial?_slot (name:=Str.ofString "__next__") tz F.slot_zip_next (wpAny_call_entry F.slot_zip_next tz F.entry_zip_next ?_ (F.args_zip_next_1 _))))
 show wpAny _ _ (field (.ref z) 2 >>= _) _ _ _;refine wpAny_bind (wpAny_field hz rfl (x := .bool false) rfl ?_);show wpAny _ _ (field (.ref z) 3 >>= _) _ _ _
 refine wpAny_bind (wpAny_field hz rfl (x := .ref TI) rfl (wpAny_bind (wpAny_seqItems hI rfl ?_)));show wpAny _ _ (Builtin.SmallTypes.ownedTupleIsFree (.ref z) >>= _) _ _ _
 refine wpAny_bind ?_;unfold Builtin.SmallTypes.ownedTupleIsFree;refine wpAny_bind (wpAny_field hz rfl (x := .none) rfl (wpAny_pure ?_));simp only [if_true]
 refine wpAny_bind (wpAny_rule (wpAny_bind (wpAny_field hz rfl (x := .ref TO) rfl ?_)));refine wpAny_bind (wpAny_setField_rec hz (by simp) fun g1 e1 m1=>?_)
 replace e1:IsZip g1 z TI TO .ellipsis:=e1;refine wpAny_bind ?_;simp only [List.zipIdx_cons,List.zipIdx_nil,yej,yek]
 have c1':t1 k g1:=D1.keep c1 fun b o hb e=>m1.extBut _ _ (by rcases hb with rfl | rfl;exact D.i1z;exact D.l1z) e
 refine wpAny_bind (wpAny_bind (wpAny_onRaise ?_));show wpAny _ _ (Builtin.SmallTypes.nextOf (.ref i1) >>= _) _ _ _
 refine wpAny_bind (D1.stop (s:={ s with heap:=g1 }) hh c1' hx fun g2 e m2 ⟨oe,ge,ce⟩=>?_)
 have z2:IsZip g2 z TI TO .ellipsis:=m2 _ _ D.i1z.symm e1
 have nz:e≠z:=fun x=>by subst x;rw [z2] at ge;cases ge;simp at ce
 refine wpAny_setField_rec z2 (by simp) fun g3 _ m3=>?_
 refine wpAny_bind (wpAny_isInstance (T := "StopIteration") (b:=true) ⟨oe,m3.extBut _ _ nz ge,ce⟩ isSubtype_stop (wpAny_pure (q g3 fun c o n1 _ n3 _ x=>m3.extBut _ _ n1 (m2 _ _ n3 (m1.extBut _ _ n1 x)))))
end
end L2
namespace Tx
open PySem
def qfV (c:Nat):List Nat->Nat->List Nat
 | [],_=>[]
 | d::r,k=>if d=c then k::qfV c r (k+1) else qfV c r (k+1)
theorem qg1 (c:Nat):∀(a b:List Nat) (k:Nat),qfV c (a++b) k=qfV c a k++qfV c b (k+a.length)
 | [],b,k=>rfl
 | d::r,b,k=>by
   show (if d=c then k::qfV c (r++b) (k+1) else qfV c (r++b) (k+1))=(if d=c then k::qfV c r (k+1) else qfV c r (k+1))++_
   rw [qg1 c r b (k+1),yea,show k+1+r.length=k+(r.length+1) by omega]
   split<;>rfl
theorem qiB (c:Nat):∀(a:List Nat) (k:Nat),c∉a->qfV c a k=[]
 | [],_,_=>rfl
 | d::r,k,h=>by
   show (if d=c then k::qfV c r (k+1) else qfV c r (k+1))=[]
   rw [if_neg (fun e:d=c=>h (by rw [e];exact ybb)),qiB c r (k+1) fun z=>h (ybe _ z)]
theorem qfF (c:Nat):∀(L:List Nat) (k:Nat),(List.range' k (L.length+1)).filter (fun i=>decide (L[i-k]?=some c))=qfV c L k
 | [],k=>by simp [List.range',qfV]
 | d::r,k=>by
   rw [yea,List.range'_succ,List.filter_cons]
   have ih:=qfF c r (k+1)
   have e:(List.range' (k+1) (r.length+1)).filter (fun i=>decide ((d::r)[i-k]?=some c))=(List.range' (k+1) (r.length+1)).filter (fun i=>decide (r[i-(k+1)]?=some c)):=by
     refine List.filter_congr fun i hi=>?_
     have:=(List.mem_range'_1.mp hi).1
     rw [show i-k=(i-(k+1))+1 by omega,yfv]
   rw [e,ih]
   show (if decide ((d::r)[k-k]?=some c)=true then _ else _)=if d=c then _ else _
   rw [Nat.sub_self,yfw]
   by_cases h:d=c
   . rw [if_pos (by simpa using h),if_pos h]
   . rw [if_neg (by simpa using h),if_neg h]
theorem qgm (x:Str) (c k:Nat):∀(n a:Nat) (st:Array Nat×Nat),st.2<=a ->
   (forIn (List.range' a n) st (StrLaws.occBody x ⟨#[c]⟩ x.length k)).run.fst.toList=st.1.toList++((List.range' a n).filter (fun i=>decide ((sg x)[i]?=some c))).take (k-st.1.size)
 | 0,a,st,_=>by simp [List.range']
 | n+1,a,st,h=>by
   rw [List.range'_succ,yej,List.filter_cons]
   unfold StrLaws.occBody
   have one:=StrLaws.subAt_one x c a
   by_cases hc:(sg x)[a]?=some c
   . have hA:=one.mpr hc
     rw [show decide ((sg x)[a]?=some c)=true from decide_eq_true hc]
     by_cases hk:st.1.size<k
     . rw [if_pos ⟨⟨⟨hk,h⟩,hA.1⟩,hA.2⟩]
       have ih:=qgm x c k n (a+1) (st.1.push a,a+1) (yax _)
       refine Eq.trans ih ?_
       rw [ycc,Array.size_push,ycd]
       congr 1
       obtain ⟨m,e⟩:∃m,k-st.1.size=m+1:=⟨k-st.1.size-1,by omega⟩
       rw [e,show k-(st.1.size+1)=m by omega]
       rfl
     . rw [if_neg fun z=>hk z.1.1.1]
       have ih:=qgm x c k n (a+1) (st.1,st.2) (yfh h)
       refine Eq.trans ih ?_
       rw [show k-st.1.size=0 by omega]
       simp
   . rw [if_neg (fun z=>hc (one.mp ⟨z.1.2,z.2⟩)),show decide ((sg x)[a]?=some c)=false from decide_eq_false hc]
     exact qgm x c k n (a+1) (st.1,st.2) (yfh h)
theorem qo3 (x:Str) (c k:Nat):Builtin.Str.occurrences x ⟨#[c]⟩ 0 x.length k=(qfV c (sg x) 0).take k:=by
 rw [StrLaws.occ_eq]
 have h:=qgm x c k (x.length+1-0) 0 (#[],0) (yax _)
 refine Eq.trans h ?_
 have e:=qfF c (sg x) 0
 rw [len_sg] at e
 simp only [Nat.sub_zero] at e ⊢
 rw [e]
 simp
theorem qiQ {x:Str} {A B C:List Nat} (h:sg x=A++B++C):Builtin.Str.strSub x A.length (A.length+B.length)=⟨B.toArray⟩:=by
 refine ext ?_
 show (Builtin.Str.strSub x A.length (A.length+B.length)).cps.toList=_
 rw [StrLaws.strSub_toList,show x.cps.toList=A++B++C from h,Nat.add_sub_cancel_left,ycd,List.drop_left,List.take_left]
theorem qrd (x:Str) {c:Nat} (hc:c<256) (k:Nat):Txt.splitMax x ⟨#[c]⟩ (k:Int)=StrLaws.partsFrom x 1 0 ((qfV c (sg x) 0).take k):=by
 unfold Txt.splitMax
 have hl:limitOf x (k:Int)=k:=by
   unfold limitOf
   rw [if_neg (by omega),yel]
 have nil:(qfV c (sg x) 0).take k=[]->[x]=StrLaws.partsFrom x 1 0 ((qfV c (sg x) 0).take k):=fun e=>by
   rw [e]
   show [x]=[Builtin.Str.strSub x 0 x.length]
   rw [StrLaws.sub_whole]
 split
 . rename_i h
   refine nil ?_
   rw [yex,decide_eq_true_eq,decide_eq_true_eq] at h
   rcases h with h | h
   . have h:x.length<1:=h
     have:sg x=[]:=ycz.mp (by rw [len_sg];omega)
     rw [this]
     simp [qfV]
   . have e1:Builtin.Str.strKind ⟨#[c]⟩=1:=by
       unfold Builtin.Str.strKind
       rw [if_pos (by simp [hc])]
     have:1<=Builtin.Str.strKind x:=by
       unfold Builtin.Str.strKind
       split
       . decide
       . split<;>decide
     omega
 . rw [hl,qo3]
   split
   . rename_i h
     exact nil (yfx.mp h)
   . rw [StrLaws.partsBetween_eq]
     rfl
theorem max_two {x a b r:Str} {c:Nat} (hc:c<256) (h:sg x=sg a++c::(sg b++c::sg r)) (ha:c∉sg a) (hb:c∉sg b):Txt.splitMax x ⟨#[c]⟩ 2=[a,b,r]:=by
 have e:Txt.splitMax x ⟨#[c]⟩ ((2:Nat):Int)=_:=qrd x hc 2
 refine Eq.trans e ?_
 have e1:qfV c (sg x) 0=(sg a).length::((sg a).length+1+(sg b).length)::qfV c (sg r) ((sg a).length+1+(sg b).length+1):=by
   rw [h,qg1,qiB c _ _ ha]
   show (if c=c then _ else _)=_
   rw [if_pos rfl,qg1,qiB c _ _ hb]
   show _::(if c=c then _ else _)=_
   rw [if_pos rfl,Nat.zero_add]
 rw [e1]
 show [Builtin.Str.strSub x 0 (sg a).length,Builtin.Str.strSub x ((sg a).length+1) ((sg a).length+1+(sg b).length),Builtin.Str.strSub x ((sg a).length+1+(sg b).length+1) x.length]=_
 have z1:=qiQ (x:=x) (A:=[]) (B:=sg a) (C:=c::(sg b++c::sg r)) (by simpa using h)
 have z2:=qiQ (x:=x) (A:=sg a++[c]) (B:=sg b) (C:=c::sg r) (by rw [h];simp)
 have z3:=qiQ (x:=x) (A:=sg a++[c]++sg b++[c]) (B:=sg r) (C:=[]) (by rw [h];simp)
 have hl:x.length=(sg a).length+1+(sg b).length+1+(sg r).length:=by
   rw [<-len_sg,h]
   simp only [ycm,yea]
   omega
 rw [hl]
 simp only [ycm,yea,List.length_nil,Nat.zero_add] at z1 z2 z3
 rw [z1,z2,z3]
theorem split_cons {x a r:Str} {c:Nat} (h:sg x=sg a++c::sg r) (ha:c∉sg a):Txt.split x ⟨#[c]⟩=a::Txt.split r ⟨#[c]⟩:=by
 have hp:=PyProof.Rows.split_pos r ⟨#[c]⟩
 have ne:Txt.split r ⟨#[c]⟩≠[]:=fun z=>by rw [z] at hp;exact absurd hp (by decide)
 have e:x=Txt.join ⟨#[c]⟩ (a::Txt.split r ⟨#[c]⟩):=by
   refine ext ?_
   have e1:=congrArg sg (StrLaws.join_split r ⟨#[c]⟩)
   rw [sg_join] at e1
   rw [txt_join,ych,jn_cons (by simpa using ne),e1,h]
 rw [e]
 refine split_join (by simp) fun w hw=>?_
 rcases ybd.mp hw with rfl | hw
 . exact ha
 . exact StrLaws.split_free r c w hw
end Tx
namespace L2
open PySem PySem.Spec PyProof.Rows
structure qmE (P:Program) (w:World) (K:PySem.W.Frag) (mg:Str->Option Value) (base:Heap) (C:Addr) (m:Str) (k:Nat) (ps:List Str) (sp:Sp) (f:Addr) (fd:FuncData):Prop where
 ok:qaM P w K mg base (CX1 P w) k f fd ps sp
 me:qrv K C m f
 bd:qdr K fd ps []
structure qsG (P:Program) (w:World) (K:PySem.W.Frag) (mg:Str->Option Value) (base:Heap) (C:Addr) (k:Nat) (ps:List Str) (sp:Sp) (f:Addr) (fd:FuncData):Prop where
 ok:qaM P w K mg base (CX1 P w) k f fd ps sp
 mc:Mk K C f
 bd:qdr K fd ps []
section
variable {X:Cx} {k j:Nat} {f C:Addr} {fd:FuncData} {ps:List Str} {sp:Sp} {E:XK} {x m:Str} {p pos apos:Pos} {e o:Expr} {es:List Expr} {ta:TE} {t:TA}
theorem qcN {pl:Sem Bool} (he:PE X o ta) (c:Cls X.K C) (M:qmE X.prog X.w X.K X.mg X.base C m k ps sp f fd) (hr:qc3 j X.A) (hj:k<=j) (hp:qch (CX1 X.prog X.w) X E) (ha:PA X (e::es) t)
 (hst:starEach (e::es) X.env=(false,eval e X.env)::starEach es X.env:=by rfl) (hpl:(backTo pos (starEach es X.env)).any (·.1)=false:=by rfl)
 (ht:eval (.Call (.Attribute o m apos) (e::es) [] pos) X.env=(do
   let ov <-eval o X.env
   standAt apos.atName
   let (f,first) <-holding [ov] (getMethod ov m pl)
   callWith pos f first (backTo pos (starEach (e::es) X.env)) (backToKw pos (keywordEach [] X.env))):=by rfl) :
 PE X (.Call (.Attribute o m apos) (e::es) [] pos) (qpp C m sp [] E ta t):=qp1 he c M.me M.ok (hr.mono hj) M.bd .nil hp ha hst hpl ht
theorem qlE (M:qsG X.prog X.w X.K X.mg X.base C k ps sp f fd) (hr:qc3 j X.A) (hj:k+1<=j) (hg:Gl X x) (hm:X.mg x=some (.ref C)) (hp:qch (CX1 X.prog X.w) X E) (ha:PA X (e::es) t) (hdb:(x==("__debug__" : Str))=false:=by decide)
 (he:starEach (e::es) X.env=(false,eval e X.env)::starEach es X.env:=by rfl) (hpl:(backTo pos (starEach es X.env)).any (·.1)=false:=by rfl) :
 PE X (.Call (.Name x p) (e::es) [] pos) (qoQ C sp [] E t):=qp6 M.mc M.ok (hr.mono hj) hg hm M.bd .nil hp ha hdb he hpl
end
def qsK (K:PySem.W.Frag) (a b:Addr):It :=
 ⟨fun i H=>∃xs ys x y,SqT K H a xs/\SqL K H b ys/\xs[i]?=some x/\ys[i]?=some y,fun i H v H'=>∃t,v = .ref t/\H t=none/\∀xs ys x y,SqT K H a xs->SqL K H b ys->xs[i]?=some x->ys[i]?=some y->H'=upd H t (.tup [x,y]),
   fun i H=>∃xs,SqT K H a xs/\xs.length<=i⟩
theorem qkN {P:Program} {w:World} {K:PySem.W.Frag} {elts:List Expr} {x1:Nat} {pos:Pos} (a b z TI TO i1 i2:Addr) (D:ZipApart z TI TO i1 i2 a b):qqx P w K (.Tuple elts x1 pos) (qsK K a b) [z,TI,TO,i1,i2] z
   (fun i h=>IsZip h z TI TO .none/\IsPair h TI (.ref i1) (.ref i2)/\(∃c d,IsPair h TO c d)/\IsTupIter h i1 a i/\h.IsListIter i2 b i) where
 mem:=by simp
 obj:=fun i h st c hc=>by
   obtain ⟨hz,h1,⟨c1,d1,h2⟩,⟨o1,e1,_,q1⟩,⟨o2,e2,_,q2⟩⟩:=st
   simp only [ybd,ycw,or_false] at hc
   rcases hc with rfl | rfl | rfl | rfl | rfl
   . exact ⟨_,hz,fun v y=>by have y':Data.fields _=Data.cell v:=y;cases y'⟩
   . exact ⟨_,h1,fun v y=>by have y':Data.seq _ _=Data.cell v:=y;cases y'⟩
   . exact ⟨_,h2,fun v y=>by have y':Data.seq _ _=Data.cell v:=y;cases y'⟩
   . exact ⟨o1,e1,fun v y=>by rw [q1] at y;cases y⟩
   . exact ⟨o2,e2,fun v y=>by rw [q2] at y;cases y⟩
 keep:=fun i h h' st k=>by
   obtain ⟨hz,h1,⟨c1,d1,h2⟩,⟨o1,e1,q1⟩,h4⟩:=st
   exact ⟨k z (by simp) _ hz,k TI (by simp) _ h1,⟨c1,d1,k TO (by simp) _ h2⟩,⟨o1,k i1 (by simp) _ e1,q1⟩,h4.at fun o q=>k i2 (by simp) o q⟩
 item:=by
   intro X hP hw hK hc i pins s σ H E I hf st hg
   subst hP hw hK
   obtain ⟨xs,ys,x,y,hqa,hqb,hx,hy⟩:=hg
   obtain ⟨itsa,rva,pa,hza⟩:=I.tuple hqa
   obtain ⟨itsb,rvb,pb,hzb⟩:=I.list hqb
   obtain ⟨u,hu,ru⟩:=rva.get hx
   obtain ⟨v,hv,rv⟩:=rvb.get hy
   obtain ⟨hz,h1,⟨c1,d1,h2⟩,h3,h4⟩:=st
   have fr:=I.hok.fresh (yax s.heap.objs.size)
   have lt:∀c∈[z,TI,TO,i1,i2],c<s.heap.objs.size:=fun c hc=>by
     simp only [ybd,ycw,or_false] at hc
     rcases hc with rfl | rfl | rfl | rfl | rfl
     . exact ycs hz
     . exact ycs h1
     . exact ycs h2
     . obtain ⟨_,q,_⟩:=h3;exact ycs q
     . obtain ⟨_,q,_⟩:=h4;exact ycs q
   refine qpJ D (Drw.tup D.l1i1) (Drw.list D.l2i2) hz h1 h2 ⟨h3,pa⟩ ⟨h4,pb.isList⟩ (x:=u) (y:=v) (by simpa using hu) (by simpa using hv) fun h' a1 a2 a3 a4 a5 hk=>⟨_,rfl,?_⟩
   refine wpAny_letOwnedTupleGo_zip (s:={ s with heap:=h' }) a1 fun g2 hz2 hs2=>?_
   have I1:Inv X pins σ (upd H s.heap.objs.size (.tup [x,y])) { s with heap:=s.heap.push { cls := .type "tuple",data := .seq #[u,v] },toks:=s.toks } :=
     I.laid (t':=s.toks) (fun b u e=>ycr _ e) (yax _) ⟨by simp;decide,[u,v],.cons ru (.cons rv .nil),⟨_,ycq _ rfl,rfl,_,rfl⟩⟩
   have up:∀c∈[z,TI,TO,i1,i2],upd H s.heap.objs.size (.tup [x,y]) c=none:=fun c hc=>by
     rw [qaq (ycu (lt c hc))]
     exact (hf c hc).1
   have I2:Inv X pins σ (upd H s.heap.objs.size (.tup [x,y])) { s with heap:=g2,toks:=s.toks }
     := Inv.turnedL (s:={ s with heap:=s.heap.push { cls := .type "tuple",data := .seq #[u,v] },toks:=s.toks }) (h':=g2) (t':=s.toks) (ch:=[z,TI,TO,i1,i2]) I1 (fun b o hb q=>by
     simp only [ybd,ycw,or_false,not_or] at hb
     rw [hs2.2 b hb.1]
     by_cases c:b=s.heap.objs.size
     . subst c
       have q0:(s.heap.push { cls := .type "tuple",data := .seq #[u,v] }).get? s.heap.objs.size=some { cls := .type "tuple",data := .seq #[u,v] }:=ycq _ rfl
       have q1:(s.heap.push { cls := .type "tuple",data := .seq #[u,v] }).get? s.heap.objs.size=some o:=q
       rw [q0] at q1
       cases q1
       exact a5
     . have q1:(s.heap.push { cls := .type "tuple",data := .seq #[u,v] }).get? b=some o:=q
       rw [Heap.get?_push_ne _ _ _ c] at q1
       exact hk b o hb.1 hb.2.2.1 hb.2.2.2.1 hb.2.2.2.2 q1) (fun c hc=>⟨up c hc,(hf c hc).2⟩)
   refine ⟨.ref s.heap.objs.size,_,I2,rfl,⟨_,rfl,fr,fun xs' ys' x' y' hxa hyb hx' hy'=>?_⟩,⟨hz2,?_,⟨_,_,(hs2.2 TO D.TOz).trans a2⟩,?_,a4.1.at fun o q=>(hs2.2 i2 D.i2z).trans q⟩,up⟩
   . rw [I.tuple_inj hxa hqa,hx] at hx'
     rw [I.list_inj hyb hqb,hy] at hy'
     cases hx'
     cases hy'
     rfl
   . exact (hs2.2 TI D.TIz).trans (hk TI _ D.TIz D.TITO D.TIi1 D.TIi2 h1)
   . obtain ⟨o,e,r⟩:=a3.1
     exact ⟨o,(hs2.2 i1 D.i1z).trans e,r⟩
 done:=by
   intro X hP hw hK hc i pins s σ H E I hf st hg
   subst hP hw hK
   obtain ⟨xs,hqa,hx⟩:=hg
   obtain ⟨itsa,rva,pa,hza⟩:=I.tuple hqa
   obtain ⟨hz,h1,⟨c1,d1,h2⟩,h3,h4⟩:=st
   have la:=rva.length
   refine qpm (I.ok.hd hc) D (Drw.tup D.l1i1) hz h1 h2 ⟨h3,pa⟩ (by simp;omega) fun h' hk=>⟨rfl,I.turnedL (t':=s.toks) (ch:=[z,TI,TO,i1,i2]) (fun b o hb e=>?_) hf⟩
   simp only [ybd,ycw,or_false,not_or] at hb
   exact hk b o hb.1 hb.2.2.1 hb.2.2.2.1 hb.2.2.2.2 e
 self:=fun _ _ _ _ _ st h=>wpAny_pyIter_zip st.1 h
abbrev qsz (h:Heap) (l1:Addr):Heap:=h.push { cls := .type "tuple_iterator",data := .fields #[.ref l1,.int 0 0] }
abbrev qsx (h:Heap) (l1 l2:Addr):Heap:=(qsz h l1).push { cls := .type "list_iterator",data := .fields #[.ref l2,.int 0 0] }
abbrev qsu (h:Heap) (l1 l2:Addr):Heap:=(qsx h l1 l2).push { cls := .type "tuple",data := .seq #[.ref h.objs.size,.ref (qsz h l1).objs.size] }
abbrev qsv (h:Heap) (l1 l2:Addr):Heap:=(qsu h l1 l2).push { cls := .type "tuple",data := .seq #[.none,.none] }
abbrev qqE (h:Heap) (l1 l2:Addr):Heap:=(qsv h l1 l2).push { cls := .type "zip",data := .fields #[.none,.bool false,.bool false,.ref (qsx h l1 l2).objs.size,.ref (qsu h l1 l2).objs.size] }
theorem qjC (l1 l2:Addr) (xs ys:Array Value):Meets (Builtin.«zip.__new__» ⟨[.type "zip",.ref l1,.ref l2],[]⟩) (fun _ R s=>IsTup s.heap l1 xs/\s.heap.IsList l2 ys/\R (.ok (.ret (.ref (qsv s.heap l1 l2).objs.size))) { s with heap:=qqE s.heap l1 l2 }) :=
 .of_wp fun prog w A R s h=>by
   obtain ⟨hp,g,d,tk,os⟩:=s;obtain ⟨q1,q2,h⟩:=h;have hsub:=sub_zip
   have hL1:IsTup (Shared.heap ⟨hp,g,d,tk,os⟩) l1 xs:=q1
   have hL2:Heap.IsList (Shared.heap ⟨hp.push { cls := .type "tuple_iterator",data := .fields #[.ref l1,.int 0 0] },g,d,tk,os⟩) l2 ys:=Heap.IsList.push q2 _
   wp_walk using iter_tuple hL1,wpAny_pyIter_list hL2
   exact ⟨_,rfl,h⟩
theorem qkH {prog:Program} {w:World} {A:Around} {E:Value->Shared->Prop} {s:Shared} {l1 l2:Addr} {xs ys:Array Value} {Q:Value->Shared->Prop} (q1:IsTup s.heap l1 xs) (q2:s.heap.IsList l2 ys)
   (h:∀g,IsZip g (s.heap.objs.size+4) (s.heap.objs.size+2) (s.heap.objs.size+3) .none->IsPair g (s.heap.objs.size+2) (.ref s.heap.objs.size) (.ref (s.heap.objs.size+1))->IsPair g (s.heap.objs.size+3) .none .none->IsTupIter g s.heap.objs.size l1 0->g.IsListIter (s.heap.objs.size+1) l2 0 ->
     (∀c o,s.heap.get? c=some o->g.get? c=some o)->Q (.ref (s.heap.objs.size+4)) { s with heap:=g }) :
   wpAny (model prog w) A (call (.type "zip") [.ref l1,.ref l2]) Q E s:=by
 refine callType_new F.called_zip (by decide) (F.typeCall_zip_2 _ _) (F.newCall_zip_2 _ _) (fun obj=>F.args_object_init_3 obj _ _) F.entry_zip_new (qjC l1 l2 xs ys) ⟨q1,q2,?_⟩
 have z1:(qsz s.heap l1).objs.size=s.heap.objs.size+1:=yct ..
 have z2:(qsx s.heap l1 l2).objs.size=s.heap.objs.size+2:=by rw [yct,z1]
 have z3:(qsu s.heap l1 l2).objs.size=s.heap.objs.size+3:=by rw [yct,z2]
 have z4:(qsv s.heap l1 l2).objs.size=s.heap.objs.size+4:=by rw [yct,z3]
 have k5:(qqE s.heap l1 l2).get? (qsv s.heap l1 l2).objs.size=some _:=ycq _ rfl
 have k4:(qqE s.heap l1 l2).get? (qsu s.heap l1 l2).objs.size=some _:=ycr _ (ycq _ rfl)
 have k3:(qqE s.heap l1 l2).get? (qsx s.heap l1 l2).objs.size=some _:=ycr _ (ycr _ (ycq _ rfl))
 have k2:(qqE s.heap l1 l2).get? (qsz s.heap l1).objs.size=some _:=ycr _ (ycr _ (ycr _ (ycq _ rfl)))
 have k1:(qqE s.heap l1 l2).get? s.heap.objs.size=some _:=ycr _ (ycr _ (ycr _ (ycr _ (ycq _ rfl))))
 show _/\_
 rw [z2,z3,z4] at k5;rw [z1,z2] at k3;rw [z3] at k4;rw [z1] at k2;rw [z4]
 exact ⟨⟨_,k5,rfl⟩,h _ k5 k3 k4 ⟨_,k1,rfl,rfl⟩ ⟨_,k2,rfl,rfl⟩ fun c o x=>ycr _ (ycr _ (ycr _ (ycr _ (ycr _ x))))⟩
section
variable {X:Cx} {K:PySem.W.Frag}
def qqH (K:PySem.W.Frag) (ta:TA):TI:=fun σ H R=>ta σ H fun vs H1=>∃a b xs ys,vs=[.ref a,.ref b]/\SqT K H1 a xs/\SqL K H1 b ys/\R (qsK K a b) H1
theorem qoZ {a b:Expr} {elts:List Expr} {x1:Nat} {tp:Pos} {ta:TA} {p pos:Pos} (hK:X.K=K) (hg:Gl X "zip") (hm:X.mg "zip" = none) (ha:PA X [a,b] ta) (hs:starEach [a,b] X.env=(false,eval a X.env)::starEach [b] X.env:=by rfl) (hs2:(backTo pos (starEach [b] X.env)).any (·.1)=false:=by rfl):PI X (.Tuple elts x1 tp) (.Call (.Name "zip" p) [a,b] [] pos) (qqH K ta):=by
 subst hK
 intro pins s σ H R I h
 refine Call_ (qhq I hg hm PyProof.Rows.boot_zip (PyProof.Rows.callWith_type1 (thn (ha pos pins s σ H _ I h) fun us s1 ⟨vs,H1,I1,r1,q1⟩=>?_) hs hs2))
 obtain ⟨l1,l2,xs,ys,rfl,hqa,hqb,q⟩:=q1
 obtain ⟨u,v,rfl,ru,rv⟩:=qj4 r1
 cases ru
 cases rv
 obtain ⟨itsa,rva,pa,hza⟩:=I1.tuple hqa
 obtain ⟨itsb,rvb,pb,hzb⟩:=I1.list hqb
 have la:l1<s1.heap.objs.size:=by obtain ⟨_,q,_⟩:=pa;exact ycs q
 have lb:l2<s1.heap.objs.size:=by obtain ⟨_,q,_⟩:=pb.isList;exact ycs q
 generalize en:s1.heap.objs.size=n at la lb
 refine qkH pa pb.isList fun h' g1 g2 g3 g4 g5 hk=>?_
 rw [en] at g1 g2 g3 g4 g5 ⊢
 have I2:Inv X pins σ H1 { s1 with heap:=h' }:=I1.kept (t':=s1.toks) hk
 refine wpAny_pyIter_zip g1 ⟨n+4,[n+4,n+2,n+3,n,n+1],_,_,H1,rfl,I2,qkN l1 l2 (n+4) (n+2) (n+3) n (n+1) ?_,⟨g1,g2,⟨_,_,g3⟩,g4,g5⟩,fun c hb=>?_,q⟩
 . have la':@LT.lt Nat _ l1 n:=la
   have lb':@LT.lt Nat _ l2 n:=lb
   constructor<;>(intro z;exact absurd (show @Eq Nat _ _ from z) (by omega))
 . have:n<=c:=by
     simp only [ybd,ycw,or_false] at hb
     rcases hb with rfl | rfl | rfl | rfl | rfl<;>omega
   exact I1.fpOk (by omega) (I1.hok.fresh (by omega))
end
section
variable {K:PySem.W.Frag} {g:TG} {tt:TT} {te:TE} {nt:Nat} {caps:List Nat} {σ:L2.St} {H:Hp} {a b:Addr} {ta:TA} {Q:VK}
theorem qnK:qfO nt caps (qqH K ta) g tt te σ H Q↔ta σ H fun vs H1=>∃a b xs ys,vs=[.ref a,.ref b]/\SqT K H1 a xs/\SqL K H1 b ys/\qdN (qsK K a b) nt caps g tt te σ H1 Q:=Iff.rfl
theorem qqI {xs ys:List V} (hle:xs.length=ys.length) (Pv:Nat->List V->Hp->Prop) (h0:Pv 0 [] H) (hz:xs.length<=sizeLine) (hl:∀i zs H1,i<=xs.length->Pv i zs H1->SqT K H1 a xs/\SqL K H1 b ys/\zs.length<=i)
   (hs:∀i x y zs H1 t,xs[i]?=some x->ys[i]?=some y->Pv i zs H1->H1 t=none->∀(R:VK) (R':Hp->Prop),(∀v H2,Pv (i+1) (zs++[v]) H2->R v H2)->(∀H2,Pv (i+1) zs H2->R' H2) ->
     g (.ref t) (qbE nt caps σ) (upd H1 t (.tup [x,y])) fun σ4 H4=>tt σ4 H4 fun b H5=>if b=true then te σ4 H5 R else R' H5)
   (hd:∀zs H1,Pv xs.length zs H1->∀p,H1 p=none->Q (.ref p) (upd H1 p (.lst zs))):qdN (qsK K a b) nt caps g tt te σ H Q:=by
 refine ⟨fun i m zs H1=>m=xs.length-i/\i<=xs.length/\Pv i zs H1,⟨_,rfl,ybv _,h0⟩,?_⟩
 rintro i m zs H2 ⟨rfl,hi,p⟩
 obtain ⟨hqa,hqb,hlen⟩:=hl i zs H2 hi p
 by_cases hlt:i<xs.length
 . have hx:xs[i]?=some xs[i]:=ydc hlt
   have hy:ys[i]?=some (ys[i]'(by omega)):=ydc _
   refine .inr ⟨⟨xs,ys,_,_,hqa,hqb,hx,hy⟩,by omega,fun x H3 y=>?_⟩
   obtain ⟨t,rfl,ht,y⟩:=y
   rw [y _ _ _ _ hqa hqb hx hy]
   exact hs i _ _ zs H2 t hx hy p ht _ _ (fun v H4 q=>⟨xs.length-(i+1),by omega,rfl,hlt,q⟩) fun H4 q=>⟨xs.length-(i+1),by omega,rfl,hlt,q⟩
 . obtain rfl:i=xs.length:=by omega
   exact .inl ⟨⟨xs,hqa,yax _⟩,by omega,fun p' hp'=>hd zs H2 p p' hp'⟩
end
end L2
namespace L2
open PySem PySem.Spec PyProof.Rows
def qaP:Sp:=fun _ _ _ _=>False
structure qud (P:Program) (w:World) (K:PySem.W.Frag) (mg:Str->Option Value) (base:Heap) (C:Addr) (m:Str) (k:Nat) (ps:List Str) (sp:Sp) (f:Addr) (fd:FuncData):Prop where
 ok:qaM P w K mg base CX0 k f fd ps sp
 me:qrv K C m f
 bd:qdr K fd ps []
structure quh (P:Program) (w:World) (K:PySem.W.Frag) (mg:Str->Option Value) (base:Heap) (C:Addr) (k:Nat) (ps:List Str) (sp:Sp) (f:Addr) (fd:FuncData):Prop where
 ok:qaM P w K mg base CX0 k f fd ps sp
 mc:Mk K C f
 bd:qdr K fd ps []
section
variable {X:Cx} {k j:Nat} {f C:Addr} {fd:FuncData} {ps:List Str} {sp:Sp} {x m:Str} {p pos apos:Pos} {e o:Expr} {es:List Expr} {ta:TE} {t:TA}
end
def qhL:List (Str×List Str):=[("let",["new", "text"]),("hits",["new", "family"]),("rests",["new", "family"]),("either",["new", "family", "family"]),("both",["new", "family", "family"]),("in",["new", "family", "name"]),("out",["new", "family", "name"]),("show",["family"]),("says",["family", "set"]),("look",["family", "set"]),("held",["family", "family"]),("compare",["family", "name", "name"]),("turns",["family"]),("ranks",["family"]),("weights",["family"])]
def wanted (z:Str):Option (List Str):=qhL.lookup z
structure Wnt (P:Program) (w:World) (K:PySem.W.Frag) (aW:Addr):Prop where
 kv:∃kvs,KDt P w K aW kvs/\∀z ks,wanted z=some ks->∃t,qc0 kvs (Sum.inr z)=some (.ref t)/\∀H,SqT K H t (sV ks)
 kn:∃kvs,KDt P w K aW kvs/\∀z,wanted z=none->qc0 kvs (Sum.inr z)=none
structure Prt (z:Str) (d:Str) (r ks:List Str):Prop where
 hd:(Txt.split z " ")[0]?=some d
 kd:wanted d=some ks
 ps:(if d = "let" then Txt.splitMax z " " 2 else Txt.split z " ")=d::r
 ln:r.length=ks.length
 sz:z.length<=9000
inductive Th where
 | nm (z:Str) | fm (fs:List Nat) | nu (a:Nat)
def ThV (H:Hp):Th->V->Prop
 | .nm z,v=>v = .str z
 | .fm fs,v=>∃p,v = .ref p/\H p=some (.lst (nV fs))
 | .nu a,v=>v = .int (a:Nat)
theorem ThV.same {H H':Hp} (s:qas H H'):∀{th:Th} {v:V},ThV H th v->ThV H' th v
 | .nm _,_,h=>h
 | .fm _,_,⟨p,e,h⟩=>⟨p,e,s _ _ h⟩
 | .nu _,_,h=>h
structure Fml (n:Nat) (fs:List Nat):Prop where
 rise:fs.Pairwise (· < ·)
 lt:∀b∈fs,b<2^n
 few:fs.length<=70
inductive Thg (ws:List Str) (m:List (Str×List Nat)):Str->Str->Th->Prop
 | new {w:Str}:Tx.Wd w->Thg ws m "new" w (.nm w)
 | fam {w:Str} {fs:List Nat}:m.lookup w=some fs->Thg ws m "family" w (.fm fs)
 | name {w:Str}:w∈ws->Thg ws m "name" w (.nu (ws.idxOf w))
 | set {a:Nat}:a<2^ws.length->Thg ws m "set" (Tx.sT ws a) (.nu a)
 | text {fs:List Nat}:Fml ws.length fs->Thg ws m "text" (Tx.fT ws fs) (.fm fs)
def qot (pw pk:Addr):List (Str×V):=[("words",.ref pw),("kept",.ref pk)]
theorem kne:¬(("words" : Str) = "kept"):=by decide +kernel
theorem qdk (pw pk:Addr):(qot pw pk).lookup ("words" : Str)=some (.ref pw):=by
 unfold qot
 rw [yew]
 simp
theorem qf8 (pw pk:Addr):(qot pw pk).lookup ("kept" : Str)=some (.ref pk):=by
 unfold qot
 rw [yew,show (("kept" : Str) == "words")=false from beq_eq_false_iff_ne.mpr fun e=>kne e.symm]
 simp
theorem qcE (pw pk:Addr) {m:Str} (h1:(m==("words" : Str))=false) (h2:(m==("kept" : Str))=false):(qot pw pk).lookup m=none:=by
 unfold qot
 simp only [List.lookup,h1,h2]
theorem qnF (pw pk:Addr):qgG "kept" (.ref pk) (qgG "words" (.ref pw) [])=qot pw pk:=by
 show (if ("words" : Str) = "kept" then _ else _)=_
 rw [if_neg kne]
 rfl
def Kps (H:Hp) (kvs:List (Key×V)) (m:List (Str×List Nat)):Prop :=
 kvs.length=m.length/\∀n:Str,match m.lookup n with
   | some fs=>∃p,qc0 kvs (Sum.inr n)=some (.ref p)/\H p=some (.lst (nV fs))
   | none=>qc0 kvs (Sum.inr n)=none
theorem Kps.same {H H':Hp} {kvs:List (Key×V)} {m:List (Str×List Nat)} (k:Kps H kvs m) (s:∀p fs,H p=some (.lst (nV fs))->H' p=some (.lst (nV fs))):Kps H' kvs m:=by
 refine ⟨k.1,fun n=>?_⟩
 have h:=k.2 n
 cases e:m.lookup n with
 | none=>rw [e] at h;exact h
 | some fs =>
   rw [e] at h
   obtain ⟨p,h1,h2⟩:=h
   exact ⟨p,h1,s p fs h2⟩
theorem Kps.get {H:Hp} {kvs:List (Key×V)} {m:List (Str×List Nat)} (k:Kps H kvs m) {n:Str} {fs:List Nat} (e:m.lookup n=some fs):∃p,qc0 kvs (Sum.inr n)=some (.ref p)/\H p=some (.lst (nV fs)):=by
 have h:=k.2 n
 rw [e] at h
 exact h
theorem Kps.no {H:Hp} {kvs:List (Key×V)} {m:List (Str×List Nat)} (k:Kps H kvs m) {n:Str} (e:m.lookup n=none):qc0 kvs (Sum.inr n)=none:=by
 have h:=k.2 n
 rw [e] at h
 exact h
def qg8:List (Str×List Nat)->Str->List Nat->List (Str×List Nat)
 | [],n,fs=>[(n,fs)]
 | (x,gs)::r,n,fs=>if x=n then (x,fs)::r else (x,gs)::qg8 r n fs
theorem qbh (n x:Str) (fs:List Nat):∀m:List (Str×List Nat),(qg8 m n fs).lookup x=if x=n then some fs else m.lookup x
 | []=>by
   show List.lookup x [(n,fs)]=_
   by_cases h:x=n
   . simp [h]
   . simp [List.lookup,h,beq_eq_false_iff_ne.mpr h]
 | (y,gs)::r=>by
   have ih:=qbh n x fs r
   show List.lookup x (if y=n then (y,fs)::r else (y,gs)::qg8 r n fs)=_
   by_cases h:y=n
   . rw [if_pos h]
     by_cases g:x=n
     . subst h;subst g;simp
     . have:(x==y)=false:=beq_eq_false_iff_ne.mpr fun e=>g (e.trans h)
       simp only [List.lookup,this,if_neg g]
   . rw [if_neg h]
     by_cases g:x=y
     . subst g;simp [if_neg h]
     . have:(x==y)=false:=beq_eq_false_iff_ne.mpr g
       simp only [List.lookup,this]
       exact ih
theorem qcF (n:Str) (fs:List Nat):∀m:List (Str×List Nat),(qg8 m n fs).length=m.length+if (m.lookup n).isSome then 0 else 1
 | []=>rfl
 | (y,gs)::r=>by
   have ih:=qcF n fs r
   show (if y=n then (y,fs)::r else (y,gs)::qg8 r n fs).length=_
   by_cases h:y=n
   . rw [if_pos h]
     subst h
     simp
   . rw [if_neg h,yea,ih,yea]
     have:(n==y)=false:=beq_eq_false_iff_ne.mpr fun e=>h e.symm
     simp only [List.lookup,this]
     omega
theorem qj0 (kvs:List (Key×V)) (k:Key) (v:V):(qh2 kvs k v).length=kvs.length+if (qc0 kvs k).isSome then 0 else 1:=by
 unfold qh2
 rw [qdO]
 cases (qc0 kvs k).isSome<;>simp
theorem Kps.put {H:Hp} {kvs:List (Key×V)} {m:List (Str×List Nat)} (k:Kps H kvs m) {n:Str} {fs:List Nat} {p:Addr} (h:H p=some (.lst (nV fs))):Kps H (qh2 kvs (Sum.inr n) (.ref p)) (qg8 m n fs):=by
 refine ⟨?_,fun x=>?_⟩
 . rw [qj0,qcF,k.1]
   have e:=k.2 n
   cases c:m.lookup n with
   | none=>rw [c] at e;rw [e];rfl
   | some gs =>
     rw [c] at e
     obtain ⟨q,e1,_⟩:=e
     rw [e1]
     rfl
 . rw [qbh,qnW]
   by_cases g:x=n
   . rw [if_pos g,if_pos (by rw [g])]
     exact ⟨p,rfl,h⟩
   . rw [if_neg g,if_neg (fun e=>g (Sum.inr.inj e))]
     exact k.2 x
structure qea (C:Addr) (H:Hp) (d pk:Addr) (ws:List Str) (m:List (Str×List Nat)):Prop where
 ob:∃dx pw,H d=some (.ins C dx (qot pw pk))/\H pw=some (.lst (sV ws))
 dc:∃kvs,H pk=some (.dK kvs)/\Kps H kvs m
 wd:Tx.Wds ws
 fm:∀n fs,m.lookup n=some fs->Fml ws.length fs
 ms:m.length<=20
theorem qea.same {C:Addr} {H H':Hp} {d pk:Addr} {ws:List Str} {m:List (Str×List Nat)} (D:qea C H d pk ws m) (s:qas H H'):qea C H' d pk ws m:=by
 obtain ⟨dx,pw,h1,h2⟩:=D.ob
 obtain ⟨kvs,h3,h4⟩:=D.dc
 exact ⟨⟨dx,pw,s _ _ h1,s _ _ h2⟩,⟨kvs,s _ _ h3,h4.same fun p fs h=>s _ _ h⟩,D.wd,D.fm,D.ms⟩
def SmB (pk:Addr) (H H':Hp):Prop:=∀b o,H b=some o->b≠pk->H' b=some o
section
variable {K:PySem.W.Frag} {D:qeY} {σ:L2.St} {H:Hp} {u:TS} {ta tv td ty:TE} {f:Str}
theorem qnk:qjT (qsM K ta tv f) u D σ H↔tv σ H fun y H1=>ta σ H1 fun x H2=>∃a C dx fs,x = .ref a/\H2 a=some (.ins C dx fs)/\Cls K C/\qdB K C f/\fs.length<1000/\u D σ (upd H2 a (.ins C dx (qgG f y fs))):=Iff.rfl
theorem qkl:qjT (qpl td ty tv) u D σ H↔tv σ H fun v H1=>td σ H1 fun x H2=>ty σ H2 fun y H3=>∃a H4,x = .ref a/\qqB H3 a y v H4/\u D σ H4:=Iff.rfl
end
def qg7 (H:Hp) (ths:List Th) (vs:List V):Prop:=ths.length=vs.length/\∀(i:Nat) (th:Th) (v:V),ths[i]?=some th->vs[i]?=some v->ThV H th v
theorem qg7.same {H H':Hp} {ths:List Th} {vs:List V} (h:qg7 H ths vs) (s:qas H H'):qg7 H' ths vs:=⟨h.1,fun i th v h1 h2=>(h.2 i th v h1 h2).same s⟩
theorem qg7.nil {H:Hp}:qg7 H [] []:=⟨rfl,fun i th v h1 h2=>by cases h1⟩
theorem qg7.snoc {H:Hp} {ths:List Th} {vs:List V} {th:Th} {v:V} (h:qg7 H ths vs) (h2:ThV H th v):qg7 H (ths++[th]) (vs++[v]):=by
 refine ⟨by rw [ycm,ycm,h.1];rfl,fun i t u h3 h4=>?_⟩
 by_cases c:i<ths.length
 . rw [yeh c] at h3
   rw [yeh (by rw [<-h.1];exact c)] at h4
   exact h.2 i t u h3 h4
 . rw [yef (by omega)] at h3
   rw [yef (by rw [<-h.1];omega),<-h.1] at h4
   cases e:i-ths.length with
   | zero =>
     rw [e] at h3 h4
     cases h3
     cases h4
     exact h2
   | succ j=>rw [e] at h3;cases h3
theorem qg7.cons {H:Hp} {ths:List Th} {vs:List V} {th:Th} (h:qg7 H (th::ths) vs):∃v us,vs=v::us/\ThV H th v/\qg7 H ths us:=by
 cases vs with
 | nil=>exact absurd h.1 (by simp)
 | cons v us=>exact ⟨v,us,rfl,h.2 0 th v rfl rfl,by have:=h.1;simpa using this,fun i t u h1 h2=>h.2 (i+1) t u (by simpa using h1) (by simpa using h2)⟩
theorem qg7.empty {H:Hp} {vs:List V} (h:qg7 H [] vs):vs=[]:=ycz.mp h.1.symm
end L2
namespace L2
open PySem PySem.Spec PyProof.Rows
def pre:List Str->Str->Str
 | [],w=>w
 | d::ds,w=>d ++ " " ++ pre ds w
theorem qoB (x y:Str):Tx.sg (x++y)=Tx.sg x++Tx.sg y:=by
 show (x.cps++y.cps).toList=_
 simp [Tx.sg]
theorem qlj (d:Str) (ds:List Str) (w:Str):Tx.sg (pre (d::ds) w)=Tx.sg d++32::Tx.sg (pre ds w):=by
 show Tx.sg (d ++ " " ++ pre ds w)=_
 rw [qoB,qoB,Tx.lit_space,ycd]
 rfl
theorem qhD:∀(ds:List Str) (w:Str),(∀d∈ds,32∉Tx.sg d)->Txt.split (pre ds w) " " = ds++Txt.split w " "
 | [],w,_=>rfl
 | d::ds,w,h=>by
   rw [Tx.lit_space,Tx.split_cons (qlj d ds w) (h d ybb),<-Tx.lit_space,qhD ds w fun x hx=>h x (ybe _ hx)]
   rfl
theorem qpO {n w:Str} (hn:32∉Tx.sg n) (hz:(pre ["let",n] w).length<=9000):Prt (pre ["let",n] w) "let" [n,w] ["new", "text"]:=by
 have hl:32∉Tx.sg ("let" : Str):=by decide +kernel
 refine ⟨?_,by decide +kernel,?_,rfl,hz⟩
 . rw [qhD _ _ fun d hd=>?_]
   . rfl
   . rcases ybd.mp hd with rfl | hd
     . exact hl
     . rw [ydi.mp hd]
       exact hn
 . rw [if_pos rfl,Tx.lit_space]
   refine Tx.max_two (by decide) ?_ hl hn
   rw [qlj,qlj]
   rfl
def qts:R2:=fun x y H Q=>(∃z:Str,x = .str z/\y = .int 0/\Q (.str Str.empty) H)\/qpr x y H Q
theorem qpI {X:Cx}:OpR X (binaryOp .Mult) (fun x y H Q=>∃z:Str,x = .str z/\y = .int 0/\Q (.str Str.empty) H):=by
 intro pins s σ H x y v u Q I rx ry h
 obtain ⟨z,rfl,rfl,q⟩:=h
 obtain ⟨t,rfl⟩:=rx
 obtain ⟨t',rfl⟩:=ry
 exact P.mul_str_none (by decide) (by decide) ⟨.str _,H,I.tok _,I.ts _,q⟩
theorem qpK {X:Cx}:OpR X (binaryOp .Mult) qts:=qpI.or qo4
end L2
namespace L2
open PySem PySem.Spec PyProof.Rows
end L2
namespace L2
open PySem PySem.Spec PyProof.Rows
theorem qck {K:PySem.W.Frag} {t:Addr} {od:Option Addr} {its:Array Value} {n:Nat} {sl:Array (Option Value)} {ks:List Str} (l:K.lookup t=some ⟨.type "tuple",od,.seq its n,sl⟩) (hs:its.size<=100000) (v:qa6 (sV ks) its.toList):∀H,SqT K H t (sV ks) :=
 fun H => .inr ⟨_,its,n,l,rfl,rfl,qaH hs,v⟩
def qst (K:PySem.W.Frag) (w:World):List (Str×List Str)->List DictEntry->Prop
 | [],[]=>True
 | (z,ks)::r,e::es=>(∃(tk:Tok) (t:Addr),e=⟨hashStr w z,.str z tk,.ref t⟩/\∀H,SqT K H t (sV ks))/\qst K w r es
 | _,_=>False
theorem qlg {P:Program} {w:World} {K:PySem.W.Frag}:∀{S:List (Str×List Str)} {es:List DictEntry},qst K w S es ->
   ∃(kvs:List (Key×V)) (vs:List (Key×Value)),KV kvs vs/\(∀e∈es,∃k,(qbd P w).is k e.key=true/\e.hash=(qbd P w).hash k)/\Pairs (qbd P w) es vs/\vs.map (·.1)=S.map (fun p=>Sum.inr p.1) /\
     ∀z ks,S.lookup z=some ks->∃t,qc0 kvs (Sum.inr z)=some (.ref t)/\∀H,SqT K H t (sV ks)
 | [],[],_=>⟨[],[],.nil,fun e h=>(by cases h),.nil,rfl,fun z ks h=>by cases h⟩
 | [],_::_,h=>h.elim
 | _::_,[],h=>h.elim
 | (y,us)::S,e::es,h=>by
   obtain ⟨⟨tk,t,rfl,ht⟩,hr⟩:=h
   obtain ⟨kvs,vs,h1,h2,h3,h4,h5⟩:=qlg (P:=P) hr
   refine ⟨(Sum.inr y,.ref t)::kvs,(Sum.inr y,.ref t)::vs,.cons ⟨rfl,rfl⟩ h1,fun e he=>?_,.cons ?_ rfl h3,by rw [ych,ych,h4],fun z ks hz=>?_⟩
   . rcases ybd.mp he with rfl | he
     . exact ⟨Sum.inr y,(by show Value.isStrOf y (.str y tk)=true;simp [Value.isStrOf]),rfl⟩
     . exact h2 e he
   . show Value.isStrOf y (.str y tk)=true
     simp [Value.isStrOf]
   . rw [yew] at hz
     by_cases c:z=y
     . subst c
       simp at hz
       subst hz
       exact ⟨t,by unfold qc0;simp,ht⟩
     . rw [beq_eq_false_iff_ne.mpr c] at hz
       obtain ⟨t',e1,e2⟩:=h5 z ks hz
       refine ⟨t',?_,e2⟩
       unfold qc0 at e1 ⊢
       rw [yfy (by simp only [decide_eq_true_eq];exact fun e=>c (Sum.inr.inj e).symm)]
       exact e1
theorem qs7 {kvs:List (Key×V)} {vs:List (Key×Value)} {k:Key} (h:KV kvs vs) (hk:k∉vs.map (·.1)):qc0 kvs k=none:=by
 unfold qc0
 suffices kvs.find? (fun p=>decide (p.1=k))=none by rw [this];rfl
 unfold KV at h
 induction h with
 | nil=>rfl
 | cons a b ih =>
   rw [ych,ybd,not_or] at hk
   rw [yfy (by simp only [decide_eq_true_eq];exact fun e=>hk.1 (e.symm.trans a.1))]
   exact ih hk.2
theorem ql2 {z:Str}:∀{S:List (Str×List Str)},S.lookup z=none->(Sum.inr z:Key)∉S.map (fun p=>(Sum.inr p.1:Key))
 | [],_=>by simp
 | (y,u)::S,h=>by
   rw [yew] at h
   by_cases c:z=y
   . subst c;simp at h
   . rw [beq_eq_false_iff_ne.mpr c] at h
     rw [ych,ybd,not_or]
     exact ⟨fun e=>c (Sum.inr.inj e),ql2 h⟩
theorem qrQ {P:Program} {w:World} {K:PySem.W.Frag} {aW:Addr} {es:Array DictEntry} {ep:Nat} (l:K.lookup aW=some ⟨.type "dict",none,.dict es ep,#[]⟩) (hn:(aW==sysModules)=false) (h:qst K w qhL es.toList):Wnt P w K aW:=by
 obtain ⟨kvs,vs,h1,h2,h3,h4,h5⟩:=qlg (P:=P) h
 suffices kd:KDt P w K aW kvs from ⟨⟨kvs,kd,h5⟩,kvs,kd,fun z hz=>qs7 h1 (by rw [h4];exact ql2 hz)⟩
 refine ⟨hn,_,vs,l,h1,fun hp hg=>⟨_,es,ep,hg,⟨rfl,rfl,rfl⟩,rfl,fun e he=>h2 e (ydz.mpr he),h3,?_⟩⟩
 rw [h4]
 have nd:(qhL.map (·.1)).Nodup:=by decide +kernel
 have:qhL.map (fun p=>(Sum.inr p.1:Key))=(qhL.map (·.1)).map Sum.inr:=by rw [ydg];rfl
 rw [this]
 exact List.Pairwise.map _ (fun a b hab e=>hab (Sum.inr.inj e)) nd
end L2
namespace L2
open PySem PySem.Spec PyProof.Rows
section
variable {prog:Program} {w:World} {A:Around} {E:Value->Shared->Prop} {s:Shared}
end
section
variable {X:Cx} {pos:Pos}
def qt7 (K:PySem.W.Frag) (n:Nat) (t:TGs):TG:=fun v σ H Q=>∃a xs,v = .ref a/\SqL K H a xs/\xs.length=n/\t xs σ H Q
end
end L2
namespace L2
open PySem PySem.Spec PyProof.Rows
section
variable {X:Cx} {K:PySem.W.Frag}
end
end L2
namespace L2
open PySem PySem.Spec PyProof.Rows
section
variable {K:PySem.W.Frag} {g:TG} {σ:L2.St} {H:Hp} {a:Addr} {nt:Nat} {caps:List Nat} {tt:TT} {te:TE} {Q:VK}
end
end L2
namespace Tx
open PySem PySem.Builtin PySem.Builtin.Str
end Tx
namespace L2
open PySem PySem.Spec PyProof.Rows PySem.Builtin PySem.Builtin.Str
section
variable {prog:Program} {w:World} {A:Around} {E:Value->Shared->Prop} {s:Shared} {x y z r:Str} {t u v k:Tok} {Q:Value->Shared->Prop}
end
section
variable {X:Cx}
def qnO (i:Nat) (S:Addr->Prop) (tb:XK->TS) (th:TS):TS:=fun D σ H =>
 tb (fun c _ H'=>∃C,c = .ref C/\S C/\∀(e:Addr) (σ':St),σ'.length=σ.length->H' e=none ->
   th { nx:=fun σ2 H2=>D.nx (σ2.set i none) H2,rt:=D.rt,bk:=fun σ2 H2=>D.bk (σ2.set i none) H2,ct:=fun σ2 H2=>D.ct (σ2.set i none) H2 } (σ'.set i (some (.ref e))) (upd H' e (XO e C))) D σ H
theorem qmu {i:Nat} {n x:Str} {body suite:List Stmt} {b0:Stmt} {B:Addr} {S:Addr->Prop} {tb:XK->TS} {th:TS} {np hp pos:Pos} {bmB:List Value} {newId:String}
   (hN:X.N.Nodup) (hi:X.N[i]?=some n) (hl:X.env.scope.names.lookup n=some .local) (st:X.stack=X.env::X.outer) (hf:X.env.frame=some X.env.locals)
   (hg:Gl X x) (hm:X.mg x=some (.ref B)) (xB:PySem.W.excIn X.K B bmB newId=true) (be:PySem.W.subIn X.K (.ref B) (.type "BaseException")=some true) (su:∀C,S C->PySem.W.subIn X.K (.ref C) (.ref B)=some true)
   (hb:∀(pins:List (Addr×Obj)) (xe:Value->Shared->Prop) (E:XK),qfM ((X.pinned pins).wish xe) E->PSs ((X.pinned pins).wish xe) body (tb E))
   (hs:∀(pins:List (Addr×Obj)) (e:Addr),PSs (X.within pins e) (b0::suite) th) (hdb:(x==("__debug__" : Str))=false:=by decide) :
   PS X (.Try body [.ExceptHandler (some (.Name x np)) (some n) (b0::suite) hp] [] [] pos) (qnO i S tb th):=by
 intro pins s σ H D I h
 refine wpAny_Try_except ?_
 let E1:XK:=fun c _ H'=>∃C,c = .ref C/\S C/\∀(e:Addr) (σ':St),σ'.length=σ.length->H' e=none ->
   th { nx:=fun σ2 H2=>D.nx (σ2.set i none) H2,rt:=D.rt,bk:=fun σ2 H2=>D.bk (σ2.set i none) H2,ct:=fun σ2 H2=>D.ct (σ2.set i none) H2 } (σ'.set i (some (.ref e))) (upd H' e (XO e C))
 let xe1:Value->Shared->Prop:=Thr (X.pinned pins) E1
 have hp1:qfM ((X.pinned pins).wish xe1) E1:=fun x s' ⟨p1,σ1,H',e,T,C',fl,ex,J,n1,n2,a,q⟩=>⟨p1,σ1,H',e,T,C',fl,ex,J.unwish,⟨n1.old,n1.loc,n1.cel,n1.pin,n1.frm,n1.non⟩,⟨n2.old,n2.loc,n2.cel,n2.pin,n2.frm,n2.non⟩,a,q⟩
 refine wpAny_mono (hb pins xe1 E1 hp1 [] s σ H D (I.pin1.wish _) h) (fun f s1 q=>?_) fun x s1 q=>?_
 . have q':=SP.unpinned q
   cases f with
   | next=>exact wpAny_execs_nil q'
   | brk=>exact q'
   | cont=>exact q'
   | ret u=>exact q'
 . obtain ⟨p1,σ1,H',e,T,C,fl,rfl,J,ne,nT,a,C',ec,sC,qh⟩:=q
   cases ec
   refine Fly.notedA (base:=X.base) (L:=X.env.locals) (show X.A.frames=_ from st▸I.ok.frames) (show s1.heap.FunFrames X.base (X.env::X.outer) from st▸J.stack) hf a fun h2 T2 n2 l2 a2=>?_
   refine Fly.lands (s:={ s1 with heap:=h2 }) a2 fun h3 l3 a3=>?_
   have nT2:Nw (X.pinned pins) p1 H' T2:=by
     rcases n2 with z | z
     . rw [z];exact nT
     . exact J.nw z (J.hok.none_of z)
   have cc:∀b∈[e,T,T2],Nw (X.pinned pins) p1 H' b:=fun b z=>by
     simp only [ybd,ycw,or_false] at z
     rcases z with rfl | rfl | rfl
     . exact ne
     . exact nT
     . exact nT2
   have l2:Fly.Left (frs X.stack) [e,T,T2] s1.heap h2:=by
     rw [st]
     exact l2.mono (fun _ z=>z) fun b z=>by simp at z ⊢;rcases z with z | z<;>simp [z]
   have l3:Fly.Left (frs X.stack) [e,T,T2] h2 h3:=l3.mono (fun _ z=>absurd z (by simp)) fun b z=>by simp at z ⊢;simp [z]
   have l23:=l2.trans l3
   have J3:Inv (X.within pins e) [] σ1 H' { s1 with heap:=h3 }:=(J.flown (t':=s1.toks) l23 cc).within
   refine wpAny_handleBy_cons (codeAny_handlers_test (qdm J3 (x:=x) hg hm ?_ hdb)) (by intro z;cases z)
   have kin:=J3.kIn
   obtain ⟨bm,ns,nm,qn,bs,hdct,sn,sub,ab,col,dd,k0,k1,k2,k3,k5,mN,o1,_⟩:=qfn kin xB
   obtain ⟨neT,oe,vs,oT,ts,he,hc,_⟩:=id a3
   refine Fly.matches_own (C:=C) (b:=true) he hc o1 (Fly.lk fun M=>PySem.W.looks_subIn kin be) (Fly.lk fun M=>PySem.W.looks_subIn kin (su C sC)) ?_
   refine codeAny_handlers_suite_as (Fly.lands (s:={ s1 with heap:=h3 }) a3 fun h4 l4 a4=>?_)
   have l4:Fly.Left (frs X.stack) [e,T,T2] s1.heap h4:=l23.trans (l4.mono (fun _ z=>absurd z (by simp)) fun b z=>by simp at z ⊢;simp [z])
   obtain ⟨_,oe4,_,_,_,he4,hc4,_⟩:=id a4
   have J4:Inv (X.pinned pins) p1 σ1 H' { s1 with heap:=h4 }:=J.flown (t':=s1.toks) l4 cc
   have J5:=J4.told (o:=XO e C) ne ⟨⟨oe4,he4,hc4⟩,⟨oe4,he4⟩,fun g1 g2 ⟨o,z1,z2⟩ k=>⟨o,k o z1,z2⟩⟩
   refine qde (X:=X.within pins e) (v := .ref e) (i:=i) (x:=n) J5.within hN hi (.inl hl) rfl (fun s6 I6=>?_) (.inr hl)
   refine wpAny_mono (hs pins e [] s6 _ _ _ I6 (qh e σ1 (J.len.trans I.len.symm) ne.non)) (fun f s7 q7=>?_) fun _ _ z=>z.elim
   cases f with
   | next=>obtain ⟨σ7,H7,I7,d⟩:=q7;exact qcX (I7.outside I.ok) hN hi hl fun s8 I8=>⟨_,_,I8,d⟩
   | brk=>obtain ⟨σ7,H7,I7,d⟩:=q7;exact qcX (I7.outside I.ok) hN hi hl fun s8 I8=>⟨_,_,I8,d⟩
   | cont=>obtain ⟨σ7,H7,I7,d⟩:=q7;exact qcX (I7.outside I.ok) hN hi hl fun s8 I8=>⟨_,_,I8,d⟩
   | ret u=>obtain ⟨v,σ7,H7,I7,r,d⟩:=q7;exact qcX (I7.outside I.ok) hN hi hl fun s8 I8=>⟨v,_,_,I8,r,d⟩
theorem qmm {i:Nat} {S:Addr->Prop} {tb:XK->TS} {th:TS} {D:qeY} {σ:St} {H:Hp} {u:TS}:qjT (qnO i S tb th) u D σ H↔tb (fun c _ H'=>∃C,c = .ref C/\S C/\∀(e:Addr) (σ':St),σ'.length=σ.length->H' e=none ->
 th { nx:=fun σ2 H2=>u D (σ2.set i none) H2,rt:=D.rt,bk:=fun σ2 H2=>D.bk (σ2.set i none) H2,ct:=fun σ2 H2=>D.ct (σ2.set i none) H2 } (σ'.set i (some (.ref e))) (upd H' e (XO e C))) { D with nx:=u D } σ H:=Iff.rfl
def qtO (K:PySem.W.Frag) (S:Addr->Prop):List V->Hp->VK->Prop:=fun xs H Q=>∃C,S C/\qtU K C xs H Q
theorem qdc {K:PySem.W.Frag} {S:Addr->Prop} (hK:X.K=K) (k:∀C,S C->qpU K C):qcM X (.builtin "isinstance") (qtO K S):=by
 intro pins s σ H xs us Q I r h
 obtain ⟨C,sC,h⟩:=h
 exact qn0 hK (k C sC) pins s σ H xs us Q I r h
end
section
variable {X:Cx}
def qr0 (c1 c2:Str) (to ta tb:TE):TE:=fun σ H Q=>to σ H fun x H1=>∃xs:Str,x = .str xs/\ta σ H1 fun y H2=>∃ys:Str,y = .str ys/\ys.length≠0/\ys.length<=10000/\tb σ H2 fun z H3=>∃(zs r:Str) (i:Nat),z = .str zs/\zs.length≠0/\zs.length<=10000 /\
 Builtin.Str.occurrences xs (ys++c1) 0 xs.length 1=[i]/\Builtin.Str.glued (zs++c2) (Builtin.Str.partsBetween xs [i] (ys++c1).length)=r/\(ys++c1=zs++c2->r=xs)/\xs.length<=10000/\r.length<=100000/\Q (.str r) H3
theorem qoA {s:Shared} {K:PySem.W.Frag} (kin:K.In s.heap) (h1:PySem.W.nsOkIn K cStatics=true) (h2:PySem.W.nsIn K cStatics sharingNotToldKey=some none):NoneBooked s.heap :=
 ⟨_,.of_isNs (PySem.W.isNs_of_in kin h1),PySem.W.nsMap_none_of_in kin h1 h2⟩
end
end L2
namespace L2
open PySem PySem.Spec PyProof.Rows
section
variable {X:Cx}
end
end L2
namespace L2
open PySem PySem.Spec PyProof.Rows PySem.Builtin PySem.Builtin.Str
section
variable {prog:Program} {w:World} {A:Around} {E:Value->Shared->Prop} {s:Shared} {x y z:Str} {t u v k:Tok} {Q:Value->Shared->Prop}
theorem qjG (hu:u≠0) (hv:v≠0) (hy:(y.length==0)=false) (hb:x.length+(occurrences x y 0 x.length (x.length+1)).length*z.length<=100000) (hr:(Txt.replace x y z).length<=100000)
   (hnb:NoneBooked s.heap) (q1:Q (.str x t) s) (q2:Q (.str (Txt.replace x y z) s.toks) { s with toks:=s.toks+1 }):wpAny (model prog w) A (call (.builtin "str.replace") [.str x t,.str y u,.str z v]) Q E s:=by
 have hl:tooLong (x.length+(occurrences x y 0 x.length (x.length+1)).length*z.length)=false:=by
   unfold tooLong
   rw [sizeLine_eq]
   exact decide_eq_false (by omega)
 have h0:(u==0||v==0)=false:=by simp [hu,hv]
 have fit:(Txt.replace x y z).length<=sizeLine:=by rw [sizeLine_eq];omega
 have g:GivesAt (fun s=>NoneBooked s.heap) («str.replace» ⟨[.str x t,.str y u,.str z v],[]⟩) (.either (.val (.str x t)) (.str (Txt.replace x y z))):=by
   show GivesAt _ (if ((occurrences x y 0 x.length (x.length+1)).isEmpty||(y.length==0&&z.length==0))=true then (do rule "str.replace.nothing";ret (.str x t)) else
         (do let same <-isSame (.str y u) (.str z v)
             if same=true then (do rule "str.replace.old-is-new";ret (.str x t)) else
             if tooLong (x.length+(occurrences x y 0 x.length (x.length+1)).length*z.length)=true then unsupported "str.replace:memory" else
             retStr (glued z (partsBetween x (occurrences x y 0 x.length (x.length+1)) y.length)))) _
   intro prog w A R s hb hq
   by_cases he:((occurrences x y 0 x.length (x.length+1)).isEmpty||(y.length==0&&z.length==0))=true
   . rw [if_pos he]
     exact wpAny_bind (wpAny_rule (wpAny_pure hq.1))
   . rw [if_neg he]
     refine wpAny_bind (wpAny_isSame_str h0 hb fun b=>?_)
     cases b
     . show wpAny _ _ (if tooLong _=true then _ else retStr _) _ _ _
       rw [hl]
       have e:Txt.replace x y z=glued z (partsBetween x (occurrences x y 0 x.length (x.length+1)) y.length):=by
         unfold Txt.replace
         rw [if_neg he]
       rw [<-e]
       exact wpAny_bind (wpAny_mkStr (wpAny_pure hq.2.2) hq.2.1)
     . exact wpAny_bind (wpAny_rule (wpAny_pure hq.1))
 exact call_givesAt F.slot_str_replace (typeIs_str _ _ _) F.entry_str_replace (F.args_str_replace_3 _ _ _) g hnb ⟨q1,fit,q2⟩
end
section
variable {prog:Program} {w:World} {A:Around} {E:Value->Shared->Prop} {s:Shared} {x y z:Str} {t u v k:Tok} {Q:Value->Shared->Prop}
def qof (x y z:Str):Str:=glued z (partsBetween x (occurrences x y 0 x.length 1) y.length)
theorem qjF (hu:u≠0) (hv:v≠0) (hb:x.length+(occurrences x y 0 x.length 1).length*z.length<=100000) (hr:(qof x y z).length<=100000)
   (hnb:NoneBooked s.heap) (q1:Q (.str x t) s) (q2:Q (.str (qof x y z) s.toks) { s with toks:=s.toks+1 }):wpAny (model prog w) A (call (.builtin "str.replace") [.str x t,.str y u,.str z v,.int 1 k]) Q E s:=by
 have hl:tooLong (x.length+(occurrences x y 0 x.length 1).length*z.length)=false:=by
   unfold tooLong
   rw [sizeLine_eq]
   exact decide_eq_false (by omega)
 have h0:(u==0||v==0)=false:=by simp [hu,hv]
 have fit:(qof x y z).length<=sizeLine:=by rw [sizeLine_eq];omega
 have g:GivesAt (fun s=>NoneBooked s.heap) («str.replace» ⟨[.str x t,.str y u,.str z v,.int 1 k],[]⟩) (.either (.val (.str x t)) (.str (qof x y z))):=by
   have e:«str.replace» ⟨[.str x t,.str y u,.str z v,.int 1 k],[]⟩=(do
       let limit <-countLimit "str.replace" (some (.int 1 k)) (x.length+1)
       if ((occurrences x y 0 x.length limit).isEmpty||(y.length==0&&z.length==0))=true then (do rule "str.replace.nothing";ret (.str x t)) else
         (do let same <-isSame (.str y u) (.str z v)
             if same=true then (do rule "str.replace.old-is-new";ret (.str x t)) else
             if tooLong (x.length+(occurrences x y 0 x.length limit).length*z.length)=true then unsupported "str.replace:memory" else
             retStr (glued z (partsBetween x (occurrences x y 0 x.length limit) y.length)))):=rfl
   rw [e,countLimit_int "str.replace" 1 k (x.length+1) (by decide)]
   show GivesAt _ (if ((occurrences x y 0 x.length 1).isEmpty||(y.length==0&&z.length==0))=true then (do rule "str.replace.nothing";ret (.str x t)) else
         (do let same <-isSame (.str y u) (.str z v)
             if same=true then (do rule "str.replace.old-is-new";ret (.str x t)) else
             if tooLong (x.length+(occurrences x y 0 x.length 1).length*z.length)=true then unsupported "str.replace:memory" else
             retStr (glued z (partsBetween x (occurrences x y 0 x.length 1) y.length)))) _
   intro prog w A R s hb hq
   by_cases he:((occurrences x y 0 x.length 1).isEmpty||(y.length==0&&z.length==0))=true
   . rw [if_pos he]
     exact wpAny_bind (wpAny_rule (wpAny_pure hq.1))
   . rw [if_neg he]
     refine wpAny_bind (wpAny_isSame_str h0 hb fun b=>?_)
     cases b
     . show wpAny _ _ (if tooLong _=true then _ else retStr _) _ _ _
       rw [hl]
       exact wpAny_bind (wpAny_mkStr (wpAny_pure hq.2.2) hq.2.1)
     . exact wpAny_bind (wpAny_rule (wpAny_pure hq.1))
 exact call_givesAt F.slot_str_replace (typeIs_str _ _ _) F.entry_str_replace (F.args_str_replace_4 _ _ _ _) g hnb ⟨q1,fit,q2⟩
end
def qqM:V->List V->Hp->VK->Prop:=fun x vs H Q=>∃z y r:Str,x = .str z/\vs=[.str y,.str r]/\(y.length==0)=false/\z.length<=400/\r.length<=200/\(Txt.replace z y r).length<=100000/\Q (.str z) H/\Q (.str (Txt.replace z y r)) H
def qok:V->List V->Hp->VK->Prop:=fun x vs H Q=>∃z y r:Str,x = .str z/\vs=[.str y,.str r,.int 1]/\z.length<=200/\r.length<=200/\(qof z y r).length<=100000/\Q (.str z) H/\Q (.str (qof z y r)) H
theorem qsT {x y z:V} {us:List Value} (r:qa6 [x,y,z] us):∃a b c,us=[a,b,c]/\qbo x a/\qbo y b/\qbo z c:=by
 cases r with
 | cons r1 r2 =>
   obtain ⟨b,c,rfl,h1,h2⟩:=qj4 r2
   exact ⟨_,b,c,rfl,r1,h1,h2⟩
theorem qnt {X:Cx} (h1:PySem.W.nsOkIn X.K cStatics=true) (h2:PySem.W.nsIn X.K cStatics sharingNotToldKey=some none):MtR X "str.replace" qok:=by
 intro pins s σ H x vs v us Q I rx rv h
 obtain ⟨z,y,r,rfl,rfl,hz,hr,hl,q1,q2⟩:=h
 obtain ⟨t,rfl⟩:=rx
 obtain ⟨u1,u2,u3,rfl,⟨ty,rfl⟩,⟨tr,rfl⟩,⟨tk,rfl⟩⟩:=qsT rv
 refine qjF (yfz _) (yfz _) ?_ hl (qoA I.kIn h1 h2) ⟨.str z,H,I,⟨_,rfl⟩,q1⟩ ⟨.str _,H,I.tok _,I.ts _,q2⟩
 have:=StrLaws.occ_length_le_len z y 0 z.length 1
 have:(occurrences z y 0 z.length 1).length*r.length<=201*200:=yfm (by omega) hr
 omega
theorem qkp {X:Cx} (h1:PySem.W.nsOkIn X.K cStatics=true) (h2:PySem.W.nsIn X.K cStatics sharingNotToldKey=some none):MtR X "str.replace" qqM:=by
 intro pins s σ H x vs v us Q I rx rv h
 obtain ⟨z,y,r,rfl,rfl,hy,hz,hr,hl,q1,q2⟩:=h
 obtain ⟨t,rfl⟩:=rx
 obtain ⟨u1,u2,rfl,⟨ty,rfl⟩,⟨tr,rfl⟩⟩:=qj4 rv
 refine qjG (yfz _) (yfz _) hy ?_ hl (qoA I.kIn h1 h2) ⟨.str z,H,I,⟨_,rfl⟩,q1⟩ ⟨.str _,H,I.tok _,I.ts _,q2⟩
 have:=StrLaws.occ_length_le_len z y 0 z.length (z.length+1)
 have:(occurrences z y 0 z.length (z.length+1)).length*r.length<=401*200:=yfm (by omega) hr
 omega
end L2
namespace Tm
open PySem
def spL (c:Nat):List Nat->List (List Nat)
 | []=>[[]]
 | d::r=>if d=c then []::spL c r else match spL c r with | []=>[[d]] | p::ps=>(d::p)::ps
theorem qek (c:Nat):∀l,spL c l≠[]
 | []=>by simp [spL]
 | d::r=>by
   unfold spL
   split
   . simp
   . cases spL c r<;>simp
theorem qjo (c:Nat):∀l,Tx.jn c (spL c l)=l
 | []=>rfl
 | d::r=>by
   have ih:=qjo c r
   have ne:=qek c r
   unfold spL
   by_cases h:d=c
   . rw [if_pos h,Tx.jn_cons ne,ih,h]
     rfl
   . rw [if_neg h]
     cases e:spL c r with
     | nil=>exact absurd e ne
     | cons p ps =>
       rw [e] at ih
       cases ps with
       | nil=>show d::p=d::r;rw [show p=r from ih]
       | cons q qs =>
         show (d::p)++c::Tx.jn c (q::qs)=d::r
         rw [yeu,show p++c::Tx.jn c (q::qs)=r from ih]
theorem qeJ (c:Nat):∀l,∀p∈spL c l,c∉p
 | [],p,hp=>by
   rw [show p=[] from by simpa [spL] using hp]
   simp
 | d::r,p,hp=>by
   have ih:=qeJ c r
   unfold spL at hp
   by_cases h:d=c
   . rw [if_pos h] at hp
     rcases ybd.mp hp with rfl | hp
     . simp
     . exact ih p hp
   . rw [if_neg h] at hp
     cases e:spL c r with
     | nil=>exact absurd e (qek c r)
     | cons q qs =>
       rw [e] at hp ih
       rcases ybd.mp hp with rfl | hp
       . rw [ybd,not_or]
         exact ⟨fun z=>h z.symm,ih q ybb⟩
       . exact ih p (ybe _ hp)
def stx (p:List Nat):Str:=⟨p.toArray⟩
theorem qbr (p:List Nat):Tx.sg (stx p)=p:=by simp [stx,Tx.sg]
theorem qlf (z:Str):stx (Tx.sg z)=z:=Tx.ext (qbr _)
theorem qhy (z:Str) (c:Nat):Txt.split z ⟨#[c]⟩=(spL c (Tx.sg z)).map stx:=by
 have e:z=Txt.join ⟨#[c]⟩ ((spL c (Tx.sg z)).map stx):=Tx.ext (by
   rw [Tx.txt_join,ydg]
   rw [show (Tx.sg ∘ stx)=id from funext fun p=>qbr p,yfd,qjo])
 conv=>lhs;rw [e]
 exact Tx.split_join (by simpa using qek c _) fun w hw=>by
   obtain ⟨p,hp,rfl⟩:=ybn.mp hw
   rw [qbr]
   exact qeJ c _ p hp
def sb (x y:List Nat) (c:Nat):List Nat:=if c=88 then x else if c=89 then y else [c]
def rn (x y:List Nat) (T:List Nat):List Nat:=T.flatMap (sb x y)
theorem qkZ {c:Nat} (l:List Nat):∀(u:List Nat),c∉u->spL c (u++l)=match spL c l with | []=>[u] | p::ps=>(u++p)::ps
 | [],_=>by
   show spL c l=_
   cases e:spL c l with
   | nil=>exact absurd e (qek c l)
   | cons p ps=>rfl
 | d::u,h=>by
   rw [ybd,not_or] at h
   rw [yeu]
   conv=>lhs;unfold spL
   rw [if_neg fun z=>h.1 z.symm,qkZ l u h.2]
   cases e:spL c l with
   | nil=>exact absurd e (qek c l)
   | cons p ps=>rfl
theorem qoz {c:Nat} {x y:List Nat} (h8:c≠88) (h9:c≠89) (hx:c∉x) (hy:c∉y):∀T,spL c (rn x y T)=(spL c T).map (rn x y)
 | []=>rfl
 | d::r=>by
   have ih:=qoz h8 h9 hx hy r
   show spL c (sb x y d++rn x y r)=_
   by_cases h:d=c
   . subst h
     rw [show sb x y d=[d] from by unfold sb;rw [if_neg h8,if_neg h9]]
     show spL d (d::rn x y r)=_
     unfold spL
     rw [if_pos rfl,if_pos rfl,ih]
     rfl
   . have hf:c∉sb x y d:=by
       unfold sb
       split
       . exact hx
       . split
         . exact hy
         . simpa using fun z:c=d=>h z.symm
     rw [qkZ _ _ hf,ih]
     conv=>rhs;unfold spL
     rw [if_neg h]
     cases e:spL c r with
     | nil=>exact absurd e (qek c r)
     | cons p ps=>rfl
theorem qow {x y T:List Nat} {c:Nat} (h8:c≠88) (h9:c≠89) (h:c∈T):c∈rn x y T :=
 List.mem_flatMap.mpr ⟨c,h,by unfold sb;rw [if_neg h8,if_neg h9];simp⟩
theorem qjA {x y:List Nat}:∀{T:List Nat},88∉T->89∉T->rn x y T=T
 | [],_,_=>rfl
 | d::r,h1,h2=>by
   rw [ybd,not_or] at h1 h2
   show sb x y d++rn x y r=_
   rw [qjA h1.2 h2.2]
   unfold sb
   rw [if_neg fun z=>h1.1 z.symm,if_neg fun z=>h2.1 z.symm]
   rfl
theorem qjs {c:Nat} {w:List Nat}:∀{p:List Nat},c∉p->p.flatMap (fun d=>if d=c then w else [d])=p
 | [],_=>rfl
 | d::r,h=>by
   rw [ybd,not_or] at h
   rw [yga,if_neg fun z=>h.1 z.symm,qjs h.2]
   rfl
theorem qoe {c:Nat} {w:List Nat}:∀{P:List (List Nat)},(∀p∈P,c∉p)->(Tx.jn c P).flatMap (fun d=>if d=c then w else [d])=(List.intersperse w P).flatten
 | [],_=>rfl
 | [p],h=>by
   show p.flatMap _=(List.intersperse w [p]).flatten
   rw [show List.intersperse w [p]=[p] from rfl,yfo,List.flatten_nil,yda,qjs (h p ybb)]
 | p::q::r,h=>by
   have h2:=qoe (w:=w) (P:=q::r) fun a ha=>h a (ybe _ ha)
   show (p++c::Tx.jn c (q::r)).flatMap _=_
   rw [ygb,yga,if_pos rfl,h2,qjs (h p ybb)]
   show p++(w++_)=(p::w::List.intersperse w (q::r)).flatten
   simp
theorem qi8 (w:Str):∀ys:List Str,Tx.sg (Str.join w ys)=(List.intersperse (Tx.sg w) (ys.map Tx.sg)).flatten
 | []=>rfl
 | [x]=>by simp [Str.join,List.intersperse]
 | x::y::r=>by
   have ih:=qi8 w (y::r)
   show Tx.sg (x++w++Str.join w (y::r))=_
   rw [Tx.sg_app,Tx.sg_app,ih]
   simp [List.intersperse]
theorem qiy (z w:Str) (c:Nat):Tx.sg (Txt.replace z ⟨#[c]⟩ w)=(Tx.sg z).flatMap fun d=>if d=c then Tx.sg w else [d]:=by
 rw [StrLaws.replace_one,qi8,qhy,ydg,show (Tx.sg ∘ stx)=id from funext fun p=>qbr p,yfd,<-qoe (qeJ c _),qjo]
structure XY (ws:List Str) (x y:List Nat):Prop where
 w:Tx.Wds ws
 two:2<=ws.length
 x:x=[88]\/∃z,ws[0]?=some z/\x=Tx.sg z
 y:y=[89]\/∃z,ws[1]?=some z/\y=Tx.sg z
section
variable {ws:List Str} {x y:List Nat}
theorem XY.fx (h:XY ws x y) {c:Nat} (hc:c<65):c∉x:=by
 rcases h.x with e | ⟨z,e1,e⟩
 . rw [e];simp;omega
 . rw [e];exact (h.w.wd z (ydk e1)).free (by omega)
theorem XY.fy (h:XY ws x y) {c:Nat} (hc:c<65):c∉y:=by
 rcases h.y with e | ⟨z,e1,e⟩
 . rw [e];simp;omega
 . rw [e];exact (h.w.wd z (ydk e1)).free (by omega)
theorem XY.split (h:XY ws x y) {c:Nat} (hc:c<65) (T:List Nat):Txt.split (stx (rn x y T)) ⟨#[c]⟩=(spL c T).map fun p=>stx (rn x y p):=by
 rw [qhy,qbr,qoz (by omega) (by omega) (h.fx hc) (h.fy hc),ydg]
 rfl
def qsH (c:Nat):Bool:=!(decide (c=88)||decide (c=89)||(decide (97<=c)&&decide (c<=122)))
def qrG (q:List Nat):Bool:=q.isEmpty||q==[110,111,110,101]||q.any qsH
theorem qmz (h:XY ws x y) {q:List Nat} (hq:qrG q=true):stx (rn x y q)∉ws:=fun hm=>by
 have hd:=h.w.wd _ hm
 unfold qrG at hq
 simp only [yex] at hq
 rcases hq with (e | e) | e
 . rw [yfx.mp e] at hd
   have:=hd.1
   rw [<-Tx.len_sg,qbr] at this
   exact absurd this (by show ¬1<=0;decide)
 . rw [beq_iff_eq.mp e,qjA (by decide) (by decide)] at hm
   exact h.w.no (by rw [Tx.lit_none];exact hm)
 . obtain ⟨c,h1,h2⟩:=ybj.mp e
   unfold qsH at h2
   simp only [yaw,ygc,decide_eq_false_iff_not,ygd] at h2
   have:=hd.2.2 c (by rw [qbr];exact qow h2.1.1 h2.1.2 h1)
   omega
def qpf (q:List Nat):Bool:=q==[88]||q==[89]
def ixy (q:List Nat):Nat:=if q=[88] then 0 else 1
theorem qmf {ws:List Str} (nd:ws.Nodup) {i:Nat} {z:Str} (h:ws[i]?=some z):ws.idxOf z=i:=by
 obtain ⟨h1,e⟩:=ybr.mp h
 rw [<-e]
 exact nd.idxOf_getElem i h1
theorem qgy (h:XY ws x y) {q:List Nat} (hq:qpf q=true):stx (rn x y q)∉ws\/(stx (rn x y q)∈ws/\ws.idxOf (stx (rn x y q))=ixy q):=by
 unfold qpf at hq
 simp only [yex,beq_iff_eq] at hq
 have up:∀c,c<97->stx [c]∉ws:=fun c hc hm=>by
   have:=(h.w.wd _ hm).2.2 c (by rw [qbr];simp)
   omega
 rcases hq with rfl | rfl
 . rw [show rn x y [88]=x from by simp [rn,sb]]
   rcases h.x with e | ⟨z,e1,e⟩
   . rw [e];exact .inl (up 88 (by decide))
   . rw [e,qlf];exact .inr ⟨ydk e1,qmf h.w.nd e1⟩
 . rw [show rn x y [89]=y from by simp [rn,sb]]
   rcases h.y with e | ⟨z,e1,e⟩
   . rw [e];exact .inl (up 89 (by decide))
   . rw [e,qlf];exact .inr ⟨ydk e1,qmf h.w.nd e1⟩
def qsF (l:List Nat):Bool:=decide (l.Pairwise (· < ·))
def qrb (p:List Nat):Bool:=(spL 43 p != [[45]])&&((spL 43 p).any qrG||((spL 43 p).all qpf&&!qsF ((spL 43 p).map ixy)))
def qrV (p:List Nat):Option Nat:=if p=[45] then some 0 else if (spL 43 p).all qpf&&qsF ((spL 43 p).map ixy) then some (Fam.ofN ((spL 43 p).map ixy)) else none
theorem qlC (h:XY ws x y) {P:List (List Nat)} (e:(P.map fun p=>stx (rn x y p))=[("-" : Str)]):P=[[45]]:=by
 match P,e with
 | _::_::_,e=>simp at e
 | [p],e =>
   have e1:stx (rn x y p)=("-" : Str):=by simpa using e
   have e2:=congrArg Tx.sg e1
   rw [qbr,Tx.lit_dash] at e2
   have e2:rn x y p=[45]:=e2
   -- no sign but 45
   have hx:∀c∈x,c≠45:=fun c hc z=>h.fx (c:=45) (by decide) (z▸hc)
   have hy:∀c∈y,c≠45:=fun c hc z=>h.fy (c:=45) (by decide) (z▸hc)
   have ne:∀c,sb x y c=[]->False:=fun c z=>by
     unfold sb at z
     split at z
     . rcases h.x with e | ⟨w,e1,e⟩
       . rw [e] at z;cases z
       . have:=(h.w.wd w (ydk e1)).1
         rw [<-Tx.len_sg,<-e,z] at this
         exact absurd this (by decide)
     . split at z
       . rcases h.y with e | ⟨w,e1,e⟩
         . rw [e] at z;cases z
         . have:=(h.w.wd w (ydk e1)).1
           rw [<-Tx.len_sg,<-e,z] at this
           exact absurd this (by decide)
       . cases z
   match p,e2 with
   | c::r,e2 =>
     have e3:sb x y c++rn x y r=[45]:=e2
     cases es:sb x y c with
     | nil=>exact (ne c es).elim
     | cons a b =>
       rw [es] at e3
       have e4:a=45/\b++rn x y r=[]:=by simpa using e3
       obtain ⟨rfl,e5⟩:=e4
       obtain ⟨rfl,e6⟩:=yge.mp e5
       have hc:c=45:=by
         unfold sb at es
         split at es
         . exact absurd rfl (hx 45 (by rw [es];simp))
         . split at es
           . exact absurd rfl (hy 45 (by rw [es];simp))
           . simpa using es
       subst hc
       cases r with
       | nil=>rfl
       | cons d r' =>
         have:sb x y d++rn x y r'=[]:=e6
         exact (ne d (yge.mp this).1).elim
theorem qlc (h:XY ws x y) {p:List Nat} (hp:qrb p=true):Tx.rS ws (stx (rn x y p))=none:=by
 unfold qrb at hp
 simp only [yab,yex,bne_iff_ne,ne_eq,yaw] at hp
 obtain ⟨h1,h2⟩:=hp
 unfold Tx.rS
 rw [Tx.lit_plus,h.split (by decide),if_neg fun z=>h1 (qlC h z)]
 refine if_neg fun ⟨z1,z2⟩=>?_
 rcases h2 with h2 | ⟨h2,h3⟩
 . obtain ⟨q,m1,m2⟩:=ybj.mp h2
   exact qmz h m2 (z1 _ (ybn.mpr ⟨q,m1,rfl⟩))
 . have e:((spL 43 p).map fun p=>stx (rn x y p)).map (fun w=>ws.idxOf w)=(spL 43 p).map ixy:=by
     rw [ydg]
     refine yfe fun q hq=>?_
     rcases qgy h (ybf.mp h2 q hq) with c | c
     . exact absurd (z1 _ (ybn.mpr ⟨q,hq,rfl⟩)) c
     . exact c.2
   rw [e] at z2
   exact absurd (decide_eq_true z2) (by rw [show decide _=false from h3];decide)
theorem qo6 (h:XY ws x y) {p:List Nat} {v:Nat} (hp:qrV p=some v):Tx.rS ws (stx (rn x y p))=none\/Tx.rS ws (stx (rn x y p))=some v:=by
 unfold qrV at hp
 unfold Tx.rS
 rw [Tx.lit_plus,h.split (by decide)]
 by_cases c:p=[45]
 . rw [if_pos c] at hp
   cases hp
   subst c
   refine .inr (if_pos ?_)
   rw [show spL 43 [45]=[[45]] from rfl]
   show [stx (rn x y [45])]=_
   rw [qjA (by decide) (by decide),Tx.lit_dash]
   rfl
 . rw [if_neg c] at hp
   by_cases c2:((spL 43 p).all qpf&&qsF ((spL 43 p).map ixy))=true
   . rw [if_pos c2] at hp
     cases hp
     rw [yab] at c2
     obtain ⟨c2,c3⟩:=c2
     rw [if_neg fun z=>by
       have e:=qlC h z
       rw [e] at c2
       exact absurd c2 (by decide)]
     by_cases c4:∀q∈spL 43 p,stx (rn x y q)∈ws
     . have e:((spL 43 p).map fun p=>stx (rn x y p)).map (fun w=>ws.idxOf w)=(spL 43 p).map ixy:=by
         rw [ydg]
         refine yfe fun q hq=>?_
         rcases qgy h (ybf.mp c2 q hq) with c | c
         . exact absurd (c4 q hq) c
         . exact c.2
       refine .inr ?_
       rw [e]
       exact if_pos ⟨fun w hw=>by obtain ⟨q,hq,rfl⟩:=ybn.mp hw;exact c4 q hq,of_decide_eq_true c3⟩
     . exact .inl (if_neg fun z=>c4 fun q hq=>z.1 _ (ybn.mpr ⟨q,hq,rfl⟩))
   . rw [if_neg c2] at hp
     cases hp
def qsD (t:List Nat):Bool:=(t.isEmpty||t.any qsH)&&((spL 32 t).any qrb||((spL 32 t).all (fun p=>(qrV p).isSome)&&!qsF ((spL 32 t).map fun p=>(qrV p).getD 0)))
theorem qqd (h:XY ws x y) {t:List Nat} (ht:qsD t=true):Tx.rF ws (stx (rn x y t))=none:=by
 unfold qsD at ht
 simp only [yab,yex,yaw] at ht
 obtain ⟨h1,h2⟩:=ht
 have hn:stx (rn x y t) ≠ "none" := fun z=>by
   have e:=congrArg Tx.sg z
   rw [qbr,Tx.lit_none] at e
   have e:rn x y t=[110,111,110,101]:=e
   rcases h1 with h1 | h1
   . rw [yfx.mp h1] at e
     cases e
   . obtain ⟨c,m1,m2⟩:=ybj.mp h1
     unfold qsH at m2
     simp only [yaw,ygc,decide_eq_false_iff_not,ygd] at m2
     have m3:=qow (x:=x) (y:=y) m2.1.1 m2.1.2 m1
     rw [e] at m3
     simp only [ybd,ycw,or_false] at m3
     omega
 unfold Tx.rF
 rw [if_neg fun z=>hn (L2.noneT_iff.mp z)]
 rw [Tx.lit_space,h.split (by decide)]
 refine if_neg fun ⟨z1,_,z2⟩=>?_
 rcases h2 with h2 | ⟨h2,h3⟩
 . obtain ⟨q,m1,m2⟩:=ybj.mp h2
   have:=z1 _ (ybn.mpr ⟨q,m1,rfl⟩)
   rw [qlc h m2] at this
   cases this
 . have e:((spL 32 t).map fun p=>stx (rn x y p)).map (fun p=>(Tx.rS ws p).getD 0)=(spL 32 t).map fun p=>(qrV p).getD 0:=by
     rw [ydg]
     refine yfe fun q hq=>?_
     obtain ⟨v,hv⟩:=yed.mp (ybf.mp h2 q hq)
     rw [hv]
     show (Tx.rS ws (stx (rn x y q))).getD 0=v
     rcases qo6 h hv with c | c
     . have:=z1 _ (ybn.mpr ⟨q,hq,rfl⟩)
       rw [c] at this
       cases this
     . rw [c];rfl
   rw [e] at z2
   exact absurd (decide_eq_true z2) (by rw [show decide _=false from h3];decide)
end
end Tm
namespace L2
open PySem PySem.Spec PyProof.Rows Tm
inductive K4 | dd | fy | tx
 deriving DecidableEq
inductive Rf (ws:List Str) (m:List (Str×List Nat)):Str->Str->K4->Prop
 | new {w:Str}:¬Tx.Wd w->As w->Rf ws m "new" w .tx
 | fam {w:Str}:m.lookup w=none->Rf ws m "family" w .fy
 | name {w:Str}:w∉ws->Rf ws m "name" w .tx
 | set {z:Str}:Tx.rS ws z=none->Rf ws m "set" z .tx
 | text {z:Str}:Tx.rF ws z=none->Rf ws m "text" z .tx
inductive Rfs (ws:List Str) (m:List (Str×List Nat)):List Str->List Str->K4->Prop
 | here {k w:Str} {ks r:List Str} {c:K4}:Rf ws m k w c->Rfs ws m (k::ks) (w::r) c
 | next {k w:Str} {ks r:List Str} {c:K4} {th:Th}:Thg ws m k w th->Rfs ws m ks r c->Rfs ws m (k::ks) (w::r) c
theorem Rfs.at {ws:List Str} {m:List (Str×List Nat)} {ks r:List Str} {c:K4} (h:Rfs ws m ks r c) :
   ∃(ths:List Th) (k w:Str),(∀(i:Nat) (k w:Str) (th:Th),ks[i]?=some k->r[i]?=some w->ths[i]?=some th->Thg ws m k w th)/\ks[ths.length]?=some k/\r[ths.length]?=some w/\Rf ws m k w c:=by
 induction h with
 | here h=>exact ⟨[],_,_,fun i k w th _ _ z=>(by cases z),rfl,rfl,h⟩
 | @next k w ks r c th h _ ih =>
   obtain ⟨ths,k',w',h1,h2,h3,h4⟩:=ih
   refine ⟨th::ths,k',w',fun i k1 w1 t1 e1 e2 e3=>?_,by simpa using h2,by simpa using h3,h4⟩
   cases i with
   | zero=>cases e1;cases e2;cases e3;exact h
   | succ i=>exact h1 i k1 w1 t1 (by simpa using e1) (by simpa using e2) (by simpa using e3)
def qsi (z:Str):Prop:=z.length<=9000/\∃d,(_root_.PySem.Txt.split z " ")[0]?=some d/\(wanted d=none\/∃ks,wanted d=some ks/\(if d = "let" then _root_.PySem.Txt.splitMax z " " 2 else _root_.PySem.Txt.split z " ").length≠ks.length+1)
def qhc (ws:List Str) (m:List (Str×List Nat)) (z:Str):K4->Prop
 | .dd=>qsi z
 | c=>∃(deed:Str) (r ks:List Str),Prt z deed r ks/\(∀w∈r,w.length<=900)/\(Rfs ws m ks r c\/c = .tx/\deed = "compare" /\ ∃(f w:Str) (fs:List Nat),r=[f,w,w]/\m.lookup f=some fs/\Fml ws.length fs/\w∈ws)
def lit (p:List Nat):Bool:=!(p.contains 88||p.contains 89)
def jt:List (Str×List Nat)->Option K4
 | []=>none
 | (k,p)::r =>
   if k = "new" then (if lit p&&p.all (· < 128) then (if wdB (stx p) then jt r else some .tx) else none)
   else if k = "family" then (if lit p then (if p=[97]\/p=[98] then jt r else some .fy) else none)
   else if k = "name" then (if qrG p then some .tx else if qpf p then (if r=[(("name" : Str),p)]\/jt r=some .tx then some .tx else none) else none)
   else if k = "set" then (if qrb p then some .tx else none)
   else if k = "text" then (if qsD p then some .tx else none)
   else none
def jd (T:List Nat):Option K4 :=
 match spL 32 T with
 | []=>none
 | d::r =>
   if lit d then
     match wanted (stx d) with
     | none=>some .dd
     | some ks =>
       if stx d = "let" then
         match r with
         | n::c::r'=>if lit n then jt [("new",n),("text",Tx.jn 32 (c::r'))] else none
         | _=>none
       else if r.length≠ks.length then some .dd else jt (ks.zip r)
   else none
section
variable {ws:List Str} {x y:List Nat} {m:List (Str×List Nat)}
theorem qhV {p:List Nat} (h:lit p=true):rn x y p=p:=by
 unfold lit at h
 simp only [yaw,ygc,List.contains_eq_mem,decide_eq_false_iff_not] at h
 exact qjA h.1 h.2
theorem qmn (h:XY ws x y):∀T:List Nat,(rn x y T).length<=8*T.length
 | []=>ybv _
 | d::r=>by
   have ih:=qmn h r
   show (sb x y d++rn x y r).length<=_
   have:(sb x y d).length<=8:=by
     unfold sb
     split
     . rcases h.x with e | ⟨z,e1,e⟩
       . rw [e];decide
       . rw [e,Tx.len_sg];exact (h.w.wd z (ydk e1)).2.1
     . split
       . rcases h.y with e | ⟨z,e1,e⟩
         . rw [e];decide
         . rw [e,Tx.len_sg];exact (h.w.wd z (ydk e1)).2.1
       . show 1<=8;decide
   rw [ycm,yea]
   omega
theorem qiP (p:List Nat):(stx p).length=p.length:=by rw [<-Tx.len_sg,qbr]
theorem qph (h:XY ws x y) (ha:∃fs,m.lookup ("a" : Str)=some fs/\Fml ws.length fs) (hb:∃fs,m.lookup ("b" : Str)=some fs/\Fml ws.length fs) (hn:∀n:Str,n ≠ "a" -> n ≠ "b" -> m.lookup n=none) :
   ∀{L:List (Str×List Nat)} {c:K4},jt L=some c->Rfs ws m (L.map (·.1)) (L.map fun p=>stx (rn x y p.2)) c \/
     c = .tx/\∃(A:List (Str×List Nat)) (p:List Nat),L=A++[(("name" : Str),p),(("name" : Str),p)]/\stx (rn x y p)∈ws/\∀q∈A,∃th,Thg ws m q.1 (stx (rn x y q.2)) th
 | [],c,e=>by cases e
 | (k,p)::r,c,e=>by
   have ih:=fun {c}=>qph h ha hb hn (L:=r) (c:=c)
   have nx:∀{c:K4} {th:Th},Thg ws m k (stx (rn x y p)) th->(Rfs ws m (r.map (·.1)) (r.map fun p=>stx (rn x y p.2)) c \/
     c = .tx/\∃(A:List (Str×List Nat)) (p:List Nat),r=A++[(("name" : Str),p),(("name" : Str),p)]/\stx (rn x y p)∈ws/\∀q∈A,∃th,Thg ws m q.1 (stx (rn x y q.2)) th)->(Rfs ws m (((k,p)::r).map (·.1)) (((k,p)::r).map fun p=>stx (rn x y p.2)) c \/
     c = .tx/\∃(A:List (Str×List Nat)) (p':List Nat),(k,p)::r=A++[(("name" : Str),p'),(("name" : Str),p')]/\stx (rn x y p')∈ws/\∀q∈A,∃th,Thg ws m q.1 (stx (rn x y q.2)) th):=fun {c th} ht z=>by
     rcases z with z | ⟨z0,A,p',z1,z2,z3⟩
     . exact .inl (.next ht z)
     . exact .inr ⟨z0,(k,p)::A,p',by rw [z1];rfl,z2,fun q hq=>by
         rcases ybd.mp hq with rfl | hq
         . exact ⟨th,ht⟩
         . exact z3 q hq⟩
   unfold jt at e
   by_cases k1:k = "new"
   . subst k1
     rw [if_pos rfl] at e
     by_cases c1:(lit p&&p.all (· < 128))=true
     . rw [if_pos c1] at e
       rw [yab] at c1
       have el:rn x y p=p:=qhV c1.1
       by_cases c2:wdB (stx p)=true
       . rw [if_pos c2] at e
         exact nx (.new (by rw [el];exact qfo.mp c2)) (ih e)
       . rw [if_neg c2] at e
         cases e
         refine .inl (.here (.new (by show ¬Tx.Wd (stx (rn x y p));rw [el];exact fun z=>c2 (qfo.mpr z)) (by
           show As (stx (rn x y p))
           rw [el]
           intro d hd
           rw [qbr] at hd
           exact of_decide_eq_true (ybf.mp c1.2 d hd))))
     . rw [if_neg c1] at e;cases e
   rw [if_neg k1] at e
   by_cases k2:k = "family"
   . subst k2
     rw [if_pos rfl] at e
     by_cases c1:lit p=true
     . rw [if_pos c1] at e
       have el:rn x y p=p:=qhV c1
       by_cases c2:p=[97]\/p=[98]
       . rw [if_pos c2] at e
         rcases c2 with rfl | rfl
         . obtain ⟨fs,z1,_⟩:=ha
           exact nx (.fam (by rw [el,show stx [97]=("a" : Str) by decide +kernel];exact z1)) (ih e)
         . obtain ⟨fs,z1,_⟩:=hb
           exact nx (.fam (by rw [el,show stx [98]=("b" : Str) by decide +kernel];exact z1)) (ih e)
       . rw [if_neg c2] at e
         cases e
         refine .inl (.here (.fam (hn _ (fun z=>c2 (.inl ?_)) fun z=>c2 (.inr ?_))))
         . have:Tx.sg (stx (rn x y p))=_:=congrArg Tx.sg z
           rw [qbr,el] at this
           rw [this];decide +kernel
         . have:Tx.sg (stx (rn x y p))=_:=congrArg Tx.sg z
           rw [qbr,el] at this
           rw [this];decide +kernel
     . rw [if_neg c1] at e;cases e
   rw [if_neg k2] at e
   by_cases k3:k = "name"
   . subst k3
     rw [if_pos rfl] at e
     by_cases c1:qrG p=true
     . rw [if_pos c1] at e
       cases e
       exact .inl (.here (.name (qmz h c1)))
     . rw [if_neg c1] at e
       by_cases c2:qpf p=true
       . rw [if_pos c2] at e
         by_cases c3:r=[(("name" : Str),p)]\/jt r=some .tx
         . rw [if_pos c3] at e
           cases e
           rcases qgy h c2 with z | ⟨z,_⟩
           . exact .inl (.here (.name z))
           . rcases c3 with rfl | c3
             . exact .inr ⟨rfl,[],p,rfl,z,fun q hq=>by cases hq⟩
             . exact nx (.name z) (ih c3)
         . rw [if_neg c3] at e;cases e
       . rw [if_neg c2] at e;cases e
   rw [if_neg k3] at e
   by_cases k4:k = "set"
   . subst k4
     rw [if_pos rfl] at e
     by_cases c1:qrb p=true
     . rw [if_pos c1] at e
       cases e
       exact .inl (.here (.set (qlc h c1)))
     . rw [if_neg c1] at e;cases e
   rw [if_neg k4] at e
   by_cases k5:k = "text"
   . subst k5
     rw [if_pos rfl] at e
     by_cases c1:qsD p=true
     . rw [if_pos c1] at e
       cases e
       exact .inl (.here (.text (qqd h c1)))
     . rw [if_neg c1] at e;cases e
   rw [if_neg k5] at e
   cases e
theorem qoa {ks:List Str} {r:List (List Nat)} (h:r.length=ks.length):((ks.zip r).map (·.1))=ks/\((ks.zip r).map fun p=>stx (rn x y p.2))=r.map fun p=>stx (rn x y p):=by
 refine ⟨by rw [List.map_fst_zip (by omega)],?_⟩
 have:(fun p:Str×List Nat=>stx (rn x y p.2))=(fun p=>stx (rn x y p)) ∘ Prod.snd:=rfl
 rw [this,<-ydg,List.map_snd_zip (by omega)]
theorem qmJ:∀p∈qhL,p.2.reverse.take 2=[("name" : Str), "name"]->p.1 = "compare" /\ p.2=[("family" : Str), "name", "name"]:=by decide +kernel
theorem qjg {α:Type} {k:Str} {v:α}:∀{l:List (Str×α)},l.lookup k=some v->(k,v)∈l
 | [],h=>by cases h
 | (y,u)::l,h=>by
   rw [yew] at h
   by_cases e:k=y
   . subst e
     simp at h
     subst h
     exact ybb
   . rw [beq_eq_false_iff_ne.mpr e] at h
     exact ybe _ (qjg h)
theorem ql8 (c:Nat):∀l:List Nat,∀p∈spL c l,p.length<=l.length
 | [],p,hp=>by rw [show p=[] from by simpa [spL] using hp];exact yax _
 | d::r,p,hp=>by
   have ih:=ql8 c r
   unfold spL at hp
   by_cases h:d=c
   . rw [if_pos h] at hp
     rcases ybd.mp hp with rfl | hp
     . exact ybv _
     . exact yfh (ih p hp)
   . rw [if_neg h] at hp
     cases e:spL c r with
     | nil=>exact absurd e (qek c r)
     | cons q qs =>
       rw [e] at hp ih
       rcases ybd.mp hp with rfl | hp
       . exact Nat.succ_le_succ (ih q ybb)
       . exact yfh (ih p (ybe _ hp))
theorem qrW (h:XY ws x y) (ha:∃fs,m.lookup ("a" : Str)=some fs/\Fml ws.length fs) (hb:∃fs,m.lookup ("b" : Str)=some fs/\Fml ws.length fs) (hn:∀n:Str,n ≠ "a" -> n ≠ "b" -> m.lookup n=none)
   {T:List Nat} {c:K4} (hl:T.length<=100) (e:jd T=some c):qhc ws m (stx (rn x y T)) c:=by
 have hz:(stx (rn x y T)).length<=800:=by
   rw [qiP]
   have:=qmn h T
   omega
 have es:=h.split (c:=32) (by decide) T
 rw [<-Tx.lit_space] at es
 unfold jd at e
 cases eT:spL 32 T with
 | nil=>exact absurd eT (qek 32 T)
 | cons d r =>
 rw [eT] at e es
 have e:(if lit d=true then _ else none)=some c:=e
 by_cases c0:lit d=true
 rotate_left
 . rw [if_neg c0] at e;cases e
 rw [if_pos c0] at e
 have ed:rn x y d=d:=qhV c0
 rw [ych,ed] at es
 have h0:(_root_.PySem.Txt.split (stx (rn x y T)) " ")[0]?=some (stx d):=by rw [es];rfl
 have parts:∀w∈_root_.PySem.Txt.split (stx (rn x y T)) " ",w.length<=900:=fun w hw=>by
   have:=Tx.part_len (stx (rn x y T)) 32 w (by rw [<-Tx.lit_space];exact hw)
   omega
 cases ew:wanted (stx d) with
 | none =>
   rw [ew] at e
   cases e
   exact ⟨by omega,_,h0,.inl ew⟩
 | some ks =>
 rw [ew] at e
 have e:(if stx d=("let" : Str) then _ else _)=some c:=e
 by_cases c1:stx d=("let" : Str)
 . rw [if_pos c1] at e
   match r,e with
   | n::q::r',e =>
     have e:(if lit n=true then _ else none)=some c:=e
     by_cases c2:lit n=true
     rotate_left
     . rw [if_neg c2] at e;cases e
     rw [if_pos c2] at e
     have en:rn x y n=n:=qhV c2
     have eks:ks=[("new" : Str), "text"]:=by
       rw [c1] at ew
       have:wanted ("let" : Str)=some [("new" : Str), "text"]:=by decide +kernel
       exact Option.some.inj (ew.symm.trans this)
     have hf:=qeJ 32 T
     rw [eT] at hf
     have eT2:T=d++32::(n++32::Tx.jn 32 (q::r')):=by
       have:=qjo 32 T
       rw [eT] at this
       exact this.symm
     have e2:rn x y T=d++32::(n++32::rn x y (Tx.jn 32 (q::r'))):=by
       have ap:∀A B:List Nat,rn x y (A++B)=rn x y A++rn x y B:=fun A B=>ygb
       have cs:∀B:List Nat,rn x y (32::B)=32::rn x y B:=fun B=>rfl
       rw [eT2,ap,cs,ap,cs,ed,en]
     have em:_root_.PySem.Txt.splitMax (stx (rn x y T)) " " 2=[stx d,stx n,stx (rn x y (Tx.jn 32 (q::r')))]:=by
       rw [Tx.lit_space]
       exact Tx.max_two (by decide) (by rw [qbr,qbr,qbr,qbr,e2]) (by rw [qbr];exact hf d ybb) (by rw [qbr];exact hf n (by simp))
     have lT:(Tx.jn 32 (q::r')).length<=T.length:=by
       have:=congrArg List.length eT2
       rw [ycm,yea,ycm,yea] at this
       omega
     have lw:∀w∈[stx n,stx (rn x y (Tx.jn 32 (q::r')))],w.length<=900:=fun w hw=>by
       have ln:=ql8 32 T n (by rw [eT];simp)
       have:=qmn h (Tx.jn 32 (q::r'))
       simp only [ybd,ycw,or_false] at hw
       rcases hw with rfl | rfl
       . rw [qiP];omega
       . rw [qiP];omega
     have hP:Prt (stx (rn x y T)) (stx d) [stx n,stx (rn x y (Tx.jn 32 (q::r')))] ks:=⟨h0,ew,by rw [if_pos c1,em],by rw [eks];rfl,by omega⟩
     have:=qph h ha hb hn e
     have e3:(c ≠ .dd):=by
       rintro rfl
       rcases this with z | z
       . obtain ⟨_,_,_,_,_,_,z⟩:=z.at
         cases z
       . cases z.1
     have fin:Rfs ws m ks [stx n,stx (rn x y (Tx.jn 32 (q::r')))] c:=by
       rcases this with z | ⟨_,A,p,z,_⟩
       . rw [eks]
         have z:Rfs ws m [("new" : Str), "text"] [stx (rn x y n),stx (rn x y (Tx.jn 32 (q::r')))] c:=z
         rw [en] at z
         exact z
       . exfalso
         have:=congrArg (fun l=>(l.map (·.1)).reverse.take 2) z
         simp at this
         exact absurd this.1 (by decide +kernel)
     cases c with
     | dd=>exact absurd rfl e3
     | fy=>exact ⟨_,_,_,hP,lw,.inl fin⟩
     | tx=>exact ⟨_,_,_,hP,lw,.inl fin⟩
   | [],e=>cases e
   | [_],e=>cases e
 . rw [if_neg c1] at e
   by_cases c2:r.length≠ks.length
   . rw [if_pos c2] at e
     cases e
     refine ⟨by omega,_,h0,.inr ⟨ks,ew,?_⟩⟩
     rw [if_neg c1,es,yea,ycj]
     omega
   rw [if_neg c2] at e
   have hlen:r.length=ks.length:=by omega
   obtain ⟨z1,z2⟩:=qoa (x:=x) (y:=y) hlen
   have hP:Prt (stx (rn x y T)) (stx d) (r.map fun p=>stx (rn x y p)) ks:=⟨h0,ew,by rw [if_neg c1,es],by rw [ycj];exact hlen,by omega⟩
   have lw:∀w∈r.map (fun p=>stx (rn x y p)),w.length<=900:=fun w hw=>parts w (by rw [es];exact ybe _ hw)
   have:=qph h ha hb hn e
   rw [z1,z2] at this
   have fin:c ≠ .dd/\(Rfs ws m ks (r.map fun p=>stx (rn x y p)) c\/c = .tx/\stx d = "compare" /\ ∃(f w:Str) (fs:List Nat),r.map (fun p=>stx (rn x y p))=[f,w,w]/\m.lookup f=some fs/\Fml ws.length fs/\w∈ws):=by
     rcases this with z | ⟨rfl,A,p,z,z3,z4⟩
     . refine ⟨?_,.inl z⟩
       rintro rfl
       obtain ⟨_,_,_,_,_,_,z⟩:=z.at
       cases z
     . refine ⟨by decide,.inr ⟨rfl,?_⟩⟩
       have k1:=congrArg (fun l=>l.map (·.1)) z
       simp only [z1,ycl,ych,yem] at k1
       obtain ⟨w1,w2⟩:=qmJ _ (qjg ew) (by show ks.reverse.take 2=_;rw [k1];simp)
       refine ⟨w1,?_⟩
       have w2:ks=[("family" : Str), "name", "name"]:=w2
       have lA:A.length=1:=by
         have:=congrArg List.length k1
         rw [w2] at this
         simp at this
         omega
       match A,lA with
       | [(k0,p0)],_ =>
         rw [w2] at k1
         have k0e:k0=("family" : Str):=by simpa using k1.symm
         have z5:=congrArg (fun l=>l.map fun q:Str×List Nat=>stx (rn x y q.2)) z
         simp only [z2,ycl,ych,yem] at z5
         obtain ⟨th,hth⟩:=z4 (k0,p0) ybb
         have hth:Thg ws m k0 (stx (rn x y p0)) th:=hth
         subst k0e
         have hk:∀{k:Str} {w:Str},k = "family" -> Thg ws m k w th->∃fs,m.lookup w=some fs:=fun {k w} ek ht=>by
           cases ht with
           | fam z=>exact ⟨_,z⟩
           | new _=>exact absurd ek (by decide +kernel)
           | name _=>exact absurd ek (by decide +kernel)
           | set _=>exact absurd ek (by decide +kernel)
           | text _=>exact absurd ek (by decide +kernel)
         obtain ⟨fs,hfs⟩:=hk rfl hth
         have hF:Fml ws.length fs:=by
           by_cases ca:stx (rn x y p0)=("a" : Str)
           . obtain ⟨fs',q1,q2⟩:=ha
             rw [ca,q1] at hfs;cases hfs;exact q2
           . by_cases cb:stx (rn x y p0)=("b" : Str)
             . obtain ⟨fs',q1,q2⟩:=hb
               rw [cb,q1] at hfs;cases hfs;exact q2
             . rw [hn _ ca cb] at hfs;cases hfs
         exact ⟨_,_,fs,z5,hfs,hF,z3⟩
   cases c with
   | dd=>exact absurd rfl fin.1
   | fy=>exact ⟨_,_,_,hP,lw,fin.2⟩
   | tx=>exact ⟨_,_,_,hP,lw,fin.2⟩
end
end L2
namespace L2
open PySem PySem.Spec PyProof.Rows Tm
def qo8:List Str:=(["", " ", "shows a", "Show a", "show", "show a b"]:List Str)++(["show  a", " show a", "show a ", "let", "let c", "hits c"]:List Str)++(["hits c a b", "either c a", "both c a b a", "in c a"]:List Str)++(["out c a X Y", "says a", "look a X Y"]:List Str)++(["held a", "held a b a", "compare a X", "compare a X Y X"]:List Str)++(["turns", "turns a b", "ranks", "weights"]:List Str)
def qo2:List Str:=(["show q", "hits c q", "either c a q", "either c q zz+"]:List Str)++(["both c q a", "in c q Q1", "out c q X", "says q Q1"]:List Str)++(["look q -+", "held a q", "held q a", "compare q X X"]:List Str)++(["compare q Q1 X", "turns q", "ranks q"]:List Str)++(["show a\n", "turns b\n", "held a b\n"]:List Str)++(["weights q", "show A", "show nine99", "rests c abcdefghi", "show none"]:List Str)
def qqa:List Str:=(["hits C a", "hits abcdefghi q", "hits c1 q", "rests c+ a"]:List Str)++(["either - a q", "in C1 q q", "in c a Q1", "in c a X+Y"]:List Str)++(["both C a a", "both c9 q a", "out C a X", "in C a X", "let c none\n", "says a X\n"]:List Str)++(["out c b -", "says a Q1", "says a Y+X", "says a X+X"]:List Str)++(["says a X+", "says a none", "look b +X"]:List Str)++(["compare a X X", "compare a Q1 X", "compare a X Q1"]:List Str)++(["compare b Y Y", "let c Q1", "let c X X"]:List Str)++(["let c X+Y X", "let c X -", "let c ", "let c none X"]:List Str)++(["let c X  X+Y", "let c X ", "let C none"]:List Str)++(["let  none", "let c - -", "let c X,Y", "let c X Y X+Y -"]:List Str)
def qfW:Nat->List Str
 | 0=>qo8
 | 1=>qo2
 | _=>qqa
def qlh:Nat->K4
 | 0 => .dd
 | 1 => .fy
 | _ => .tx
def qoc (t:Str):Str:=qof t " c " " a "
def qks (k:K4) (t:Str):Bool:=decide (t.length<=40)&&decide ((qoc t).length<=40)&&decide (jd (Tx.sg t)=some k)&&decide (jd (Tx.sg (qoc t))=some k)
theorem qrj:∀t∈qo8,t = "let" \/ t = "let c" \/ qks .dd t=true:=by decide +kernel
theorem qsc:∀t∈qo2,qks .fy t=true:=by decide +kernel
theorem qrE:∀t∈qqa,qks .tx t=true:=by decide +kernel
theorem qta:∀t:Str,t = "let" \/ t = "let c" -> qoc t=t/\t.length<=40/\lit (Tx.sg t)=true/\(_root_.PySem.Txt.split t " ")[0]?=some ("let" : Str)/\(_root_.PySem.Txt.splitMax t " " 2).length≠3:=by
 rintro t (rfl | rfl)<;>decide +kernel
theorem qm0:∀i,i<3->0<(qfW i).length/\(qfW i).length<=100:=by decide +kernel
theorem qnb:∀i,i<3->∀t∈qfW i,t.length<=40/\(qoc t).length<=40:=by decide +kernel
theorem qkJ {z w:Str} {c:Nat} (hw:w.length<=8):(_root_.PySem.Txt.replace z ⟨#[c]⟩ w).length<=8*z.length:=by
 rw [<-Tx.len_sg,qiy,<-Tx.len_sg z]
 induction Tx.sg z with
 | nil=>exact ybv _
 | cons d r ih =>
   rw [yga,ycm,yea]
   have:(if d=c then Tx.sg w else [d]).length<=8:=by
     split
     . rw [Tx.len_sg];exact hw
     . show 1<=8;decide
   omega
section
variable {ws:List Str} {x y:List Nat} {m:List (Str×List Nat)}
theorem qkA (h:XY ws x y) (ha:∃fs,m.lookup ("a" : Str)=some fs/\Fml ws.length fs) (hb:∃fs,m.lookup ("b" : Str)=some fs/\Fml ws.length fs) (hn:∀n:Str,n ≠ "a" -> n ≠ "b" -> m.lookup n=none)
   {i:Nat} {t z:Str} (ht:t∈qfW i) (hz:z=t\/z=qoc t):qhc ws m (stx (rn x y (Tx.sg z))) (qlh i):=by
 have ok:∀{k:K4},qks k t=true->qhc ws m (stx (rn x y (Tx.sg z))) k:=fun {k} e=>by
   unfold qks at e
   simp only [yab,decide_eq_true_eq] at e
   obtain ⟨⟨⟨e1,e2⟩,e3⟩,e4⟩:=e
   rcases hz with rfl | rfl
   . exact qrW h ha hb hn (by rw [Tx.len_sg];omega) e3
   . exact qrW h ha hb hn (by rw [Tx.len_sg];omega) e4
 match i,ht with
 | 0,ht =>
   have spec:∀t:Str,t = "let" \/ t = "let c" -> z=t\/z=qoc t->qhc ws m (stx (rn x y (Tx.sg z))) (qlh 0):=fun t c hz=>by
     obtain ⟨e1,e2,e3,e4,e5⟩:=qta t c
     have ez:z=t:=by
       rcases hz with rfl | rfl
       . rfl
       . exact e1
     rw [ez,qhV e3,qlf]
     exact ⟨by omega,_,e4,.inr ⟨[("new" : Str), "text"],by decide +kernel,by rw [if_pos rfl];exact e5⟩⟩
   rcases qrj t ht with c | c | c
   . exact spec t (.inl c) hz
   . exact spec t (.inr c) hz
   . exact ok c
 | 1,ht=>exact ok (qsc t ht)
 | j+2,ht=>exact ok (qrE t ht)
theorem qmV {w0 w1 z r1 r2:Str} (hw:Tx.Wds ws) (h2:2<=ws.length) (e0:ws[0]?=some w0) (e1:ws[1]?=some w1) (h1:r1=z\/r1=_root_.PySem.Txt.replace z "X" w0) (h3:r2=r1\/r2=_root_.PySem.Txt.replace r1 "Y" w1) :
   ∃x y,XY ws x y/\r2=stx (rn x y (Tx.sg z)):=by
 have id1:∀(c:Nat) (l:List Nat),l.flatMap (fun d=>if d=c then [c] else [d])=l:=fun c l=>by
   induction l with
   | nil=>rfl
   | cons d r ih =>
     rw [yga,ih]
     split
     . rename_i e;rw [e];rfl
     . rfl
 obtain ⟨x,hx,ex⟩:∃x,(x=[88]\/∃z,ws[0]?=some z/\x=Tx.sg z)/\Tx.sg r1=(Tx.sg z).flatMap fun d=>if d=88 then x else [d]:=by
   rcases h1 with rfl | rfl
   . exact ⟨[88],.inl rfl,(id1 88 _).symm⟩
   . exact ⟨Tx.sg w0,.inr ⟨w0,e0,rfl⟩,by rw [show ("X" : Str)=⟨#[88]⟩ by decide +kernel];exact qiy _ _ _⟩
 obtain ⟨y,hy,ey⟩:∃y,(y=[89]\/∃z,ws[1]?=some z/\y=Tx.sg z)/\Tx.sg r2=(Tx.sg r1).flatMap fun d=>if d=89 then y else [d]:=by
   rcases h3 with rfl | rfl
   . exact ⟨[89],.inl rfl,(id1 89 _).symm⟩
   . exact ⟨Tx.sg w1,.inr ⟨w1,e1,rfl⟩,by rw [show ("Y" : Str)=⟨#[89]⟩ by decide +kernel];exact qiy _ _ _⟩
 refine ⟨x,y,⟨hw,h2,hx,hy⟩,Tx.ext ?_⟩
 rw [qbr,ey,ex,List.flatMap_assoc]
 unfold rn
 refine congrArg (fun f=>List.flatMap f (Tx.sg z)) (funext fun d=>?_)
 unfold sb
 by_cases c:d=88
 . rw [if_pos c,if_pos c]
   refine qjs ?_
   rcases hx with e | ⟨w,e1,e⟩
   . rw [e];decide
   . rw [e];exact (hw.wd w (ydk e1)).free (by decide)
 . rw [if_neg c,if_neg c]
   show (if d=89 then y else [d])++[]=_
   rw [yda]
end
end L2
namespace L2
open PySem PySem.Spec PyProof.Rows Tm
def qp4 (z:Str):Prop:=As z/\z.length<=900/\rN z=none
def qtc (z:Str):Bool:=(Tx.sg z).all (fun c=>decide (c<128))&&decide (z.length<=900)&&decide (rN z=none)
theorem qpb {z:Str} (h:qtc z=true):qp4 z:=by
 unfold qtc at h
 simp only [yab,decide_eq_true_eq] at h
 exact ⟨fun c hc=>of_decide_eq_true (ybf.mp h.1.1 c hc),h.1.2,h.2⟩
def NM1:List Str:=["none", "a none", "A", "a  b", " a", "a ", " "]
def NM2:List Str:=["abcdefghi", "a1", "a b a", "a b c d e f g h i", "a,b", "-"]
theorem qsf:∀z∈NM1++NM2,qtc z=true:=by decide +kernel
theorem quc (a b:Str):cnt [a,b,a]≠3:=by
 have e:(qco (fun i=>[a,b,a].getD i Str.empty) 2).any (·==a)=true:=by
   rw [qeO,qeO]
   simp
 show (qco (fun i=>[a,b,a].getD i Str.empty) 3).length≠3
 rw [qdJ,if_pos (show (qco (fun i=>[a,b,a].getD i Str.empty) 2).any (·==[a,b,a].getD 2 Str.empty)=true from e)]
 have:=qfG (fun i=>[a,b,a].getD i Str.empty) 2
 omega
theorem qtZ (a:Str):cnt [a,a]≠2:=by
 have e:(qco (fun i=>[a,a].getD i Str.empty) 1).any (·==a)=true:=by
   rw [qeO]
   simp
 show (qco (fun i=>[a,a].getD i Str.empty) 2).length≠2
 rw [qdJ,if_pos (show (qco (fun i=>[a,a].getD i Str.empty) 1).any (·==[a,a].getD 1 Str.empty)=true from e)]
 have:=qfG (fun i=>[a,a].getD i Str.empty) 1
 omega
theorem qrR {ys:List Str} (h0:ys≠[]) (hf:∀w∈ys,32∉Tx.sg w) (hne:ys≠[("" : Str)]) (hb:(∃w∈ys,wdB w=false)\/cnt ys≠ys.length):rN (_root_.PySem.Txt.join ⟨#[32]⟩ ys)=none:=by
 unfold rN
 rw [Tx.lit_space,Tx.split_join h0 hf,if_neg hne]
 refine if_neg fun ⟨z1,_,z2⟩=>?_
 rcases hb with ⟨w,hw,e⟩ | hb
 . have:=ybf.mp z1 w hw
   rw [e] at this
   cases this
 . exact hb z2
theorem qeK {ys:List Str} (h0:ys≠[]) (hw:∀w∈ys,Tx.Wd w\/w = "") (hl:ys.length<=20) (hne:ys≠[("" : Str)]) (hb:(∃w∈ys,wdB w=false)\/cnt ys≠ys.length):qp4 (_root_.PySem.Txt.join ⟨#[32]⟩ ys):=by
 have em:Tx.sg ("" : Str)=[]:=by rw [Tx.lit_empty]
 refine ⟨qh8 (by decide) fun y hy=>?_,?_,qrR h0 (fun w hm=>?_) hne hb⟩
 . rcases hw y hy with h | rfl
   . exact qpq h
   . intro c hc;rw [em] at hc;cases hc
 . rw [<-Tx.len_sg,Tx.txt_join]
   have:=Tx.jn_len (c:=32) (M:=8) (xs:=ys.map Tx.sg) fun p hp=>by
     obtain ⟨w,hm,rfl⟩:=ybn.mp hp
     rcases hw w hm with h | rfl
     . rw [Tx.len_sg];exact h.2.1
     . rw [em];exact ybv _
   rw [ycj] at this
   omega
 . rcases hw w hm with h | rfl
   . exact h.free (by decide)
   . rw [em];simp
theorem qrn:wdB ("" : Str)=false:=by decide +kernel
theorem qt3 {a b:Str} (ha:Tx.Wd a) (hb:Tx.Wd b):qp4 (a++Str.ofString " " ++ b++Str.ofString " " ++ a):=by
 have e:a++Str.ofString " " ++ b++Str.ofString " " ++ a=_root_.PySem.Txt.join ⟨#[32]⟩ [a,b,a]:=Tx.ext (by
   rw [Tx.txt_join,Tx.sg_app,Tx.sg_app,Tx.sg_app,Tx.sg_app,show Str.ofString " " = (⟨#[32]⟩:Str) from Tx.lit_space]
   show Tx.sg a++[32]++Tx.sg b++[32]++Tx.sg a=Tx.sg a++32::(Tx.sg b++32::Tx.sg a)
   simp)
 rw [e]
 refine qeK (by simp) (fun w hw => .inl ?_) (by simp) (by simp) (.inr (quc a b))
 simp only [ybd,ycw,or_false] at hw
 rcases hw with rfl | rfl | rfl<;>assumption
theorem qt9 {a:Str} (ha:Tx.Wd a):qp4 (a++Str.ofString " " ++ a):=by
 have e:a++Str.ofString " " ++ a=_root_.PySem.Txt.join ⟨#[32]⟩ [a,a]:=Tx.ext (by
   rw [Tx.txt_join,Tx.sg_app,Tx.sg_app,show Str.ofString " " = (⟨#[32]⟩:Str) from Tx.lit_space]
   show Tx.sg a++[32]++Tx.sg a=Tx.sg a++32::Tx.sg a
   simp)
 rw [e]
 refine qeK (by simp) (fun w hw => .inl ?_) (by simp) (by simp) (.inr (qtZ a))
 simp only [ybd,ycw,or_false] at hw
 rcases hw with rfl | rfl<;>assumption
theorem qtV {a b:Str} (ha:Tx.Wd a) (hb:Tx.Wd b):qp4 (a++Str.ofString "  " ++ b):=by
 have e:a++Str.ofString "  " ++ b=_root_.PySem.Txt.join ⟨#[32]⟩ [a, "",b]:=Tx.ext (by
   rw [Tx.txt_join,Tx.sg_app,Tx.sg_app,show Str.ofString "  " = (⟨#[32,32]⟩:Str) by decide +kernel]
   show Tx.sg a++[32,32]++Tx.sg b=Tx.sg a++32::(Tx.sg ("" : Str)++32::Tx.sg b)
   rw [Tx.lit_empty]
   simp)
 rw [e]
 refine qeK (by simp) (fun w hw=>?_) (by simp) (by simp) (.inl ⟨"",by simp,qrn⟩)
 simp only [ybd,ycw,or_false] at hw
 rcases hw with rfl | rfl | rfl
 . exact .inl ha
 . exact .inr rfl
 . exact .inl hb
theorem que {ws:List Str} (hw:Tx.Wds ws) (h:ws≠[]):qp4 (_root_.PySem.Txt.join " " ws++Str.ofString " "):=by
 have e:_root_.PySem.Txt.join " " ws++Str.ofString " " = _root_.PySem.Txt.join ⟨#[32]⟩ (ws++[("" : Str)]):=by
   rw [<-Tx.join_app h (by simp),Tx.join_one,show Str.ofString " " = (⟨#[32]⟩:Str) from Tx.lit_space]
   exact Tx.ext (by rw [Tx.sg_app,Tx.sg_app,Tx.sg_app,Tx.lit_empty];simp)
 rw [e]
 have:=hw.few
 refine qeK (by simp) (fun w hm=>?_) (by simp;omega) (fun z=>?_) (.inl ⟨"",by simp,qrn⟩)
 . rcases yat.mp hm with hm | hm
   . exact .inl (hw.wd w hm)
   . exact .inr (ydi.mp hm)
 . have l1:=congrArg List.length z
   rw [ycm,yeq] at l1
   have:=ygf.mpr h
   omega
end L2
open L2 in
local macro_rules | `(tactic| walk_at "rd")=>`(tactic| simp only [qnn,qkR,qmT,qj8,qmK,qoY,ite_true,ite_false,qj5,qsX,qs0,qpk,qoh,qey,qtx,tC,tOp,tUn,rU,qrH,tB,qtA,tOr,qtC,qr6,qt5,qrJ,qdo,qqY,qiH,tCB,qtS,qtG,qos,tBM,qtT,qop,qkB,qrp,qpx,qqi,qo5,qt1,qtF,qpl,qqW,qtr,qn5,qs1,qp2,qne,qmN,tSl,qlJ,qrL,qtI,qt7,qsS,qtY,qpn,qpi,qsj,qql,qnL,qn8,qmm,ql5,qtO,qpr,qr0,qqM,qok,qnK,qnk,qkl,qsM,qub,qlZ,qrg,qsm,qpp,qoQ,qtR,tIf,qui,qpG,
 qqU,qsa,qrZ,qrA,qkT,qhk,qpD,qrD,qq5,qrk,qre,qrz,qq1,qqQ,qqG,qty,qtz,qs4,qtt,qtd,qs3,qsP,qtg,qtn,qsZ,qua,qnm,
 qbE,List.replicate_succ,List.replicate_zero,ych,yem,Option.join_some,rIn,yda,yeu,List.nil_append,yfw,yfv,List.set_cons_zero,List.set_cons_succ,Option.some.injEq,List.cons.injEq,V.int.injEq,V.bl.injEq,V.ref.injEq,V.ty.injEq,V.str.injEq,and_true,true_and,exists_eq_left,exists_eq_left',exists_and_left,exists_eq',exists_eq,reduceCtorEq,false_and,exists_false,or_false,false_or,decide_eq_true_eq,yaw,Bool.not_eq_eq_eq_not,Bool.not_true,decide_eq_false_iff_not])
namespace Zk50
set_option maxHeartbeats 4000000
open PySem L2 PyProof.Rows
def top (i:Nat):Stmt:=PySem.Challenge.pw_allhits_k50_refused_at_a_desk.main.body.getD i (.Pass ⟨0,0,0,0⟩)
structure Txt (mg:Str->Option Value):Prop where
 n_isinstance:mg "isinstance" = none
 n_int:mg "int" = none
 n_bool:mg "bool" = none
 n_len:mg "len" = none
 n_range:mg "range" = none
 n_sorted:mg "sorted" = none
 n_set:mg "set" = none
 n_list:mg "list" = none
 n_str:mg "str" = none
 n_all:mg "all" = none
 n_zip:mg "zip" = none
 n_ValueError:mg "ValueError" = none
 c_MOST_SETS:∃t,mg "MOST_SETS" = some (.int 70 t)
 c_MOST_LETTERS:∃t,mg "MOST_LETTERS" = some (.int 8 t)
 c_MOST_NAMES:∃t,mg "MOST_NAMES" = some (.int 8 t)
 c_NO_SETS:∃t,mg "NO_SETS" = some (.str "none" (t+1))
 c_NO_NAMES:∃t,mg "NO_NAMES" = some (.str "-" (t+1))
 c_MOST_VOTERS:∃t,mg "MOST_VOTERS" = some (.int 5 t)
 c_MOST_KEPT:∃t,mg "MOST_KEPT" = some (.int 20 t)
theorem fsc {N P:List Str} {sc:Scope} (h1:sc.kind = .function:=by rfl) (h2:sc.isCoroutine=false:=by rfl) (h3:sc.isGenerator=false:=by rfl) (h4:N.Nodup:=by decide +kernel) (h5:N.take P.length=P:=by rfl) (h6:∀x∈P,sc.names.lookup x=some .local\/sc.names.lookup x=some .cell:=by decide +kernel) (h7:∀y∈sc.names,y.2 ≠ .free:=by decide +kernel):qal N P sc:=⟨h1,h2,h3,h4,h5,h6,h7⟩
theorem pec {X:Cx} {x:Str} {p pos:Pos} {e:Expr} {es:List Expr} {t:TA} {k j:Nat} {ps:List Str} {sp:Sp} {f:Addr} {fd:FuncData} (C:Cal X.prog X.w X.K X.mg X.base x k ps sp f fd) (hr:qc3 j X.A) (ha:PA X (e::es) t) (hj:k<=j:=by decide) (hg:Gl X x:=by rfl) (hdb:(x==("__debug__" : Str))=false:=by decide)
 (he:starEach (e::es) X.env=(false,eval e X.env)::starEach es X.env:=by rfl) (hpl:(backTo pos (starEach es X.env)).any (·.1)=false:=by rfl):PE X (.Call (.Name x p) (e::es) [] pos) (qiH sp [] E0 t):=qsl C hr hj hg ha hdb he hpl
section
variable {P:Program} {w:World} {K:W.Frag} {mg:Str->Option Value} {base:Heap}
abbrev qb8:Stmt:=top 9
theorem qfp:qal ["thing"] ["thing"] (qab qb8):=fsc
def qp9 (o:Obj):Bool:=match o with
 | ⟨_,_,.dict es _,_⟩=>es.size==0
 | _=>false
theorem qti {K:W.Frag} {N:Addr} {o:Obj} (h:K.lookup N=some o) (e:qp9 o=true):W.nsOkIn K N=true:=by
 unfold W.nsOkIn
 rw [h]
 obtain ⟨c,d,dt,sl⟩:=o
 cases dt with
 | dict es _ =>
   obtain rfl:es = #[]:=by simpa [qp9] using e
   simp
 | _=>cases e
/-- the classes that are caught -/
def XS (cX cN cO cM C:Addr):Prop:=C=cX\/C=cN\/C=cO\/C=cM
theorem qem {cX cN cO cM:Addr} {p:Addr->Prop} (a:p cX) (b:p cN) (c:p cO) (d:p cM):∀C,XS cX cN cO cM C->p C:=fun C h=>by
 rcases h with rfl | rfl | rfl | rfl<;>assumption
/-- the classes and the table of the text -/
structure Xt (P:Program) (w:World) (K:W.Frag) (mg:Str->Option Value) (cD aW cX cN cF cH cO cM:Addr):Prop where
 gDesk:mg "Desk" = some (.ref cD)
 cl:Cls K cD
 nw:qdB K cD "words"
 nk:qdB K cD "kept"
 gW:mg "WANTED" = some (.ref aW)
 wn:Wnt P w K aW
 gX:mg "NoText" = some (.ref cX)
 gN:mg "NoFamily" = some (.ref cN)
 gF:mg "Full" = some (.ref cF)
 gH:mg "HitError" = some (.ref cH)
 gO:mg "NoDeed" = some (.ref cO)
 gM:mg "TooMany" = some (.ref cM)
 xX:W.excIn K cX [.type "ValueError",.type "Exception",.type "BaseException",.type "object"] "ValueError.__new__" = true
 xN:W.excIn K cN [.type "ValueError",.type "Exception",.type "BaseException",.type "object"] "ValueError.__new__" = true
 xF:W.excIn K cF [.type "ValueError",.type "Exception",.type "BaseException",.type "object"] "ValueError.__new__" = true
 xH:W.excIn K cH [.type "ValueError",.type "Exception",.type "BaseException",.type "object"] "ValueError.__new__" = true
 xO:W.excIn K cO [.type "ValueError",.type "Exception",.type "BaseException",.type "object"] "ValueError.__new__" = true
 xM:W.excIn K cM [.type "ValueError",.type "Exception",.type "BaseException",.type "object"] "ValueError.__new__" = true
 beH:W.subIn K (.ref cH) (.type "BaseException")=some true
 suH:∀C,XS cX cN cO cM C->W.subIn K (.ref C) (.ref cH)=some true
 kit:∀C,XS cX cN cO cM C->qpU K C
 iV:∀C,XS cX cN cO cM C->W.kitOne K (.ref C) (.type "ValueError")=some true
 iF:∀C,XS cX cN cO cM C->W.kitOne K (.ref C) (.ref cF)=some false
 iX:∀C,XS cX cN cO cM C->W.kitOne K (.ref C) (.ref cX)=some (decide (C=cX))
 iN:∀C,XS cX cN cO cM C->W.kitOne K (.ref C) (.ref cN)=some (decide (C=cN))
 iO:∀C,XS cX cN cO cM C->W.kitOne K (.ref C) (.ref cO)=some (decide (C=cO))
 iM:∀C,XS cX cN cO cM C->W.kitOne K (.ref C) (.ref cM)=some (decide (C=cM))
 nXN:cX≠cN
 nXO:cX≠cO
 nXM:cX≠cM
 nNO:cN≠cO
 nNM:cN≠cM
 nOM:cO≠cM
 st1:W.nsOkIn K cStatics=true
 st2:W.nsIn K cStatics sharingNotToldKey=some none
def qio:Sp:=sp1 fun x H Q=>∃t,qdZ H x=some t/\Q (.bl (qkg t "int" && !qkg t "bool")) H
theorem qmR {t:String} (h:t ≠ "int"):(qkg t "int" && !qkg t "bool")=false:=by
 have e:(t == "int")=false:=by simpa using h
 unfold qkg
 rw [e]
 cases (t == "bool")<;>rfl
theorem qij {f:Addr} {fd:FuncData} (F:Fun K "is_whole" "is_whole" qb8 f fd) (T:Txt mg)  : qaM P w K mg base CX0 1 f fd ["thing"] qio:=by
 have sc:=qfp
 refine F.ok qfp (fun vs H Q E h=>by obtain ⟨_,rfl,_⟩:=h;rfl) (fun cdv A outer s H vs Q E hr h=>?_)
 obtain ⟨x0,rfl,h⟩:=h
 refine ⟨_,(qag (qao (qjp (qau qci (by rfl) T.n_isinstance PyProof.Rows.boot_isinstance (qaa (pv 0) (qaa (qd3 (v := .ty "int") (by rfl) T.n_int PyProof.Rows.boot_int rfl) qad))) (qjw (qr2 (qau qci (by rfl) T.n_isinstance PyProof.Rows.boot_isinstance (qaa (pv 0) (qaa (qd3 (v := .ty "bool") (by rfl) T.n_bool PyProof.Rows.boot_bool rfl) qad)))))))),?_⟩
 refine rdg (σ':=[some x0]) rfl ?_
 obtain ⟨t,hk,q⟩:=h
 walk_at "rd"
 refine ⟨x0, "int",⟨rfl,rfl⟩,t,hk,by decide,?_⟩
 split
 . rename_i h1
   refine ⟨x0, "bool",⟨rfl,rfl⟩,t,hk,by decide,?_⟩
   rw [h1,yez] at q
   exact q
 . rename_i h1
   have h2:qkg t "int" = false:=by simpa using h1
   rw [h2,ydv] at q
   exact q
abbrev qbL:Stmt:=top 85
theorem qer:qal ["_law_script", "_law_k", "_law_number"] ["_law_script", "_law_k"] (qab qbL):=fsc
def qjv (K:W.Frag):Sp:=sp2 fun x y H Q=>∃(a:Addr) (ns:List Int) (k:Nat),x = .ref a/\SqL K H a (ns.map V.int)/\ns.length<=63/\y = .int k/\k<=1000/\∀z:Int,Q (.int z) H
theorem qk1 {ns:List Int} {i:Int} (h0:0<=i) (h1:i<ns.length):∃z,atI (ns.map V.int) i=some (.int z):=by
 refine ⟨ns[i.toNat]'(by omega),?_⟩
 unfold atI ixN
 rw [if_pos h0,if_pos (by rw [ycj];exact h1)]
 simp [ydc (show i.toNat<ns.length by omega)]
theorem qhQ {f:Addr} {fd:FuncData} (F:Fun K "_law_cell" "_law_cell" qbL f fd) (T:Txt mg)  : qaM P w K mg base CX0 1 f fd ["_law_script", "_law_k"] (qjv K):=by
 have sc:=qer
 refine F.ok qer (fun vs H Q E h=>by obtain ⟨_,_,rfl,_⟩:=h;rfl) (fun cdv A outer s H vs Q E hr h=>?_)
 obtain ⟨x0,x1,rfl,h⟩:=h
 refine ⟨_,(qac (qaA (qap qm2 (pv 1) (qau (qaV (K:=K) rfl) (by rfl) T.n_len PySem.boot_len (qaa (pv 0) qad)) (qat _)) (qag (qao (qaR (qcl (K:=K) rfl) (pv 0) (pv 1) (fun _ _=>rfl)))) qam)
   (qac (qax (i:=2) sc.nd rfl (Or.inl rfl) (qar qby (qar qcQ (pv 1) qah) qah))
   (qac (qaA (qap qjP (qau (qaV (K:=K) rfl) (by rfl) T.n_len PySem.boot_len (qaa (pv 0) qad)) qah (qat _)) (qag (qax (i:=2) sc.nd rfl (Or.inl rfl) (qar qbf (qar qby (qar qcQ (qaR (qcl (K:=K) rfl) (pv 0) (qar qbf (qar qcQ (pv 1) qah) (qau (qaV (K:=K) rfl) (by rfl) T.n_len PySem.boot_len (qaa (pv 0) qad))) (fun _ _=>rfl)) qah) (qar qcQ (pv 1) qah)) qah))) qam)
   (qag (qao (qar qbf (qar qcQ (pv 2) (pv 2)) qah)))))),?_⟩
 refine rdg (σ':=[some x0,some x1,none]) rfl ?_
 obtain ⟨a,ns,k,rfl,hS,hl,rfl,hk,q⟩:=h
 walk_at "rd"
 refine ⟨_,.inl hS,?_⟩
 rw [ycj]
 split
 . rename_i hc
   obtain ⟨z,hz⟩:=qk1 (ns:=ns) (i:=k) (by omega) (by omega)
   exact qbg hS hz (q z)
 rename_i hc
 refine ⟨.inl ⟨by omega,by omega⟩,?_⟩
 have fin:∀z:Int,0<=z->z<2147483647->qsJ z z:=fun z h0 h1 => .inl ⟨by omega,by omega⟩
 refine qaI (fun σ' H'=>∃z:Int,0<=z/\z<10000000000/\σ'=[some (V.ref a),some (V.int k),some (V.int z)]/\H'=H) ?_ fun N hN=>?_
 . rintro σ' H' ⟨z,z0,z1,rfl,rfl⟩
   (try walk_at "rd")
   exact ⟨.inl ⟨by omega,by omega⟩,by decide,q _⟩
 . (try walk_at "rd")
   refine ⟨_,.inl hS,?_⟩
   rw [ycj]
   split
   . rename_i h0
     refine ⟨.inl ⟨by omega,by omega⟩,_,.inl hS,by rw [ycj];omega,?_⟩
     rw [ycj]
     have e0:=ygg ((k:Int)*7) (show (ns.length:Int)≠0 by omega)
     have e1:=ygh ((k:Int)*7) (show (0:Int)<ns.length by omega)
     obtain ⟨z,hz⟩:=qk1 (ns:=ns) e0 e1
     refine qbg hS hz ?_
     (try walk_at "rd")
     refine ⟨.inr ⟨by decide,by decide⟩,.inl ⟨by omega,by omega⟩,by decide,hN _ _ ⟨_,ygg _ (by decide),?_,rfl,rfl⟩⟩
     have:=ygh (z*48271+(k:Int)*7919) (show (0:Int)<2147483647 by decide)
     omega
   . exact hN _ _ ⟨_,by omega,by omega,rfl,rfl⟩
abbrev qce:Stmt:=top 86
theorem qfq:qal ["_law_cell_here", "_law_k", "_law_number"] ["_law_cell_here", "_law_k"] (qab qce):=fsc
def qa7 (c:Int) (k:Nat):Nat:=((c%2147483647*48271+(k:Int)*k*69621+k+11)%2147483629*((c%2147483647*48271+(k:Int)*k*69621+k+11)%2147483629)%2147483587).toNat
def qjS:Sp:=sp2 fun x y H Q=>∃(c:Int) (k:Nat),x = .int c/\y = .int k/\k<=1000/\Q (.int (qa7 c k:Nat)) H
theorem qid {f:Addr} {fd:FuncData} (F:Fun K "_law_mix" "_law_mix" qce f fd) (T:Txt mg)  : qaM P w K mg base CX0 1 f fd ["_law_cell_here", "_law_k"] qjS:=by
 have sc:=qfq
 refine F.ok qfq (fun vs H Q E h=>by obtain ⟨_,_,rfl,_⟩:=h;rfl) (fun cdv A outer s H vs Q E hr h=>?_)
 obtain ⟨x0,x1,rfl,h⟩:=h
 refine ⟨_,(qac (qax (i:=2) sc.nd rfl (Or.inl rfl) (qar qbf (qar qby (qar qby (qar qby (qar qcQ (qar qbf (pv 0) qah) qah) (qar qcQ (qar qcQ (pv 1) (pv 1)) qah)) (pv 1)) qah) qah))
   (qag (qao (qar qbf (qar qcQ (pv 2) (pv 2)) qah)))),?_⟩
 refine rdg (σ':=[some x0,some x1,none]) rfl ?_
 obtain ⟨c,k,rfl,rfl,hk,q⟩:=h
 walk_at "rd"
 have c0:=ygg c (show (2147483647:Int)≠0 by decide)
 have c1:=ygh c (show (0:Int)<2147483647 by decide)
 have n0:=ygg (c%2147483647*48271+(k:Int)*k*69621+k+11) (show (2147483629:Int)≠0 by decide)
 have n1:=ygh (c%2147483647*48271+(k:Int)*k*69621+k+11) (show (0:Int)<2147483629 by decide)
 have z0:=ygg ((c%2147483647*48271+(k:Int)*k*69621+k+11)%2147483629*((c%2147483647*48271+(k:Int)*k*69621+k+11)%2147483629)) (show (2147483587:Int)≠0 by decide)
 refine ⟨by decide,.inl ⟨by omega,by omega⟩,.inl ⟨by omega,by omega⟩,.inr ⟨by decide,by decide⟩,by decide,.inl ⟨by omega,by omega⟩,by decide,?_⟩
 unfold qa7 at q
 rw [Int.toNat_of_nonneg z0] at q
 exact q
abbrev qbN:Stmt:=top 88
theorem qes:qal ["_law_one", "_law_count"] ["_law_one"] (qab qbN):=fsc
def qlu:Sp:=sp1 fun x H Q=>∃a:Nat,x = .int a/\a<256/\Q (.int (Fam.pc 8 a:Nat)) H
theorem qpT:∀b:Nat,b<256->Fam.pc 8 b=b%2+Fam.pc 8 (b/2):=by decide +kernel
theorem qp0:Fam.pc 8 0=0:=by decide
theorem qhR {f:Addr} {fd:FuncData} (F:Fun K "_law_size" "_law_size" qbN f fd) (T:Txt mg)  : qaM P w K mg base CX0 1 f fd ["_law_one"] qlu:=by
 have sc:=qes
 refine F.ok qes (fun vs H Q E h=>by obtain ⟨_,rfl,_⟩:=h;rfl) (fun cdv A outer s H vs Q E hr h=>?_)
 obtain ⟨x0,rfl,h⟩:=h
 refine ⟨_,(qac (qax (i:=1) sc.nd rfl (Or.inl rfl) qah)
   (qac (qnP PassesOwn.never (qap qjP (pv 0) qah (qat _)) (qac (qax (i:=1) sc.nd rfl (Or.inl rfl) (qar qby (pv 1) (qar qbf (pv 0) qah)))
   (qag (qax (i:=0) sc.nd rfl (Or.inl rfl) (qar qnE (pv 0) qah)))))
   (qag (qao (pv 1))))),?_⟩
 refine rdg (σ':=[some x0,none]) rfl ?_
 obtain ⟨a,rfl,ha,q⟩:=h
 walk_at "rd"
 refine qri (fun m σ H'=>∃c:Nat,σ=[some (.int m),some (.int c)]/\H'=H/\c+Fam.pc 8 m=Fam.pc 8 a/\m<256) a ⟨0,rfl,rfl,by omega,ha⟩ ?_
 rintro b σ H' ⟨c,rfl,rfl,e,hb⟩ T hT
 (try walk_at "rd")
 refine qoC (fun h0=>hT _ fun N hN=>?_) fun h0=>?_
 . (try walk_at "rd")
   have:=qpT b hb
   exact ⟨by decide,⟨by decide,by decide⟩,hN (b/2) _ _ (by omega) ⟨c+b%2,rfl,rfl,by omega,by omega⟩⟩
 . have:b=0:=by omega
   subst this
   rw [qp0] at e
   rw [<-e] at q
   exact q
abbrev qbl:Stmt:=top 87
theorem qdl:qal ["_law_script", "_law_start", "_law_many", "_law_most", "_law_first", "_law_sets", "_law_k", "_law_way", "_law_found", "_law_one"] ["_law_script", "_law_start", "_law_many", "_law_most"] (qab qbl):=fsc
def qgp (K:W.Frag):Sp:=sp4 fun x y z u H Q=>∃(a:Addr) (ns:List Int) (st m mo:Nat),x = .ref a/\SqL K H a (ns.map V.int)/\ns.length<=63/\y = .int st/\st<=500/\z = .int m/\m<=8/\u = .int mo/\mo<=60 /\
 ∀(p:Addr) (fs:List Nat) (H':Hp),H p=none->qas H H'->H' p=some (.lst (nV fs))->fs.Pairwise (· < ·)->(∀b∈fs,b<2^m)->fs.length<=70->Q (.ref p) H'
theorem qj9 {m:Nat} (hm:m<=8):2^m<=256:=yaf (n:=2) (by decide) hm
theorem dbl (i:Nat):(2:Int)*((2^i:Nat):Int)=((2^(i+1):Nat):Int):=by rw [yak];omega
theorem qix:∀m:Nat,m<=8->∀s:Nat,s<=8->((List.range (2^m)).filter fun k=>decide (Fam.pc 8 k=s)).length<=70:=by decide +kernel
theorem qjr {m:Nat}:(([0,2^m-1]:List Nat).take (2^m)).Pairwise (· < ·)/\∀b∈([0,2^m-1]:List Nat).take (2^m),b<2^m:=by
 have:=yah m
 refine ⟨?_,fun b hb=>?_⟩
 . rcases yag (2^m) 2 with z | z
   . have:2^m=1:=by omega
     rw [this]
     simp
   . rw [List.take_of_length_le (by simpa using z)]
     simp
     omega
 . have:=ygi hb
   simp at this
   omega
theorem qfT {f:Addr} {fd:FuncData} (F:Fun K "_law_family" "_law_family" qbl f fd) (T:Txt mg) {f_33:Addr} {fd_33:FuncData} (C_33:Cal P w K mg base "_law_cell" 1 ["_law_script", "_law_k"] (qjv K) f_33 fd_33) {f_44:Addr} {fd_44:FuncData} (C_44:Cal P w K mg base "_law_mix" 1 ["_law_cell_here", "_law_k"] qjS f_44 fd_44) {f_34:Addr} {fd_34:FuncData} (C_34:Cal P w K mg base "_law_size" 1 ["_law_one"] qlu f_34 fd_34):qaM P w K mg base CX0 2 f fd ["_law_script", "_law_start", "_law_many", "_law_most"] (qgp K):=by
 have sc:=qdl
 refine F.ok qdl (fun vs H Q E h=>by obtain ⟨_,_,_,_,rfl,_⟩:=h;rfl) (fun cdv A outer s H vs Q E hr h=>?_)
 obtain ⟨x0,x1,x2,x3,rfl,h⟩:=h
 refine ⟨_,(qac (qax (i:=4) sc.nd rfl (Or.inr rfl) (pec C_33 hr (qaa (pv 0) (qaa (pv 1) qad))))
   (qac (qax (i:=5) sc.nd rfl (Or.inl rfl) qah)
   (qac (qdT PassesOwn.never rfl (qbq (by rfl) T.n_range (qaa (pv 2) qad)) (qaF (i:=6) sc.nd rfl (Or.inl rfl)) (qag (qax (i:=5) sc.nd rfl (Or.inl rfl) (qar qcQ qah (pv 5)))))
   (qac (qax (i:=7) sc.nd rfl (Or.inl rfl) (qar qbf (pec C_44 hr (qaa (pv 4) (qaa qah qad))) qah))
   (qac (qaA (qap (qaz (K:=K) rfl hr.units0) (pv 7) qah (qat _)) (qag (qao (qcr (N:=["_law_one", "_law_first", "_law_many"]) (nt:=1) (caps:=[4,2]) qbt rfl (qbq (by rfl) T.n_range (qaa (pv 5) qad)) (fun _ _ _ _ _=>(qaF (i:=0) (show List.Nodup (α:=Str) ["_law_one", "_law_first", "_law_many"] from by decide +kernel) rfl (Or.inl rfl))) qbH (fun _ _ _ _ _=>(qiV (qap (qaz (K:=K) rfl hr.units0) (pec C_34 hr (qaa (pv 0) qad)) (qar qbf (pec C_44 hr (qaa (pv 1) (qaa qah qad))) (qar qby (pv 2) qah)) (qat _)))) (fun _ _ _ _ _=>(pv 0))))) qam)
   (qac (qaA (qap (qaz (K:=K) rfl hr.units0) (pv 7) qah (qat _)) (qag (qao (qaR (qcl (K:=K) rfl) (qaw (qaa (qaw qad) (qaa (qaw (qaa qah qad)) (qaa (qaw (qaa (qar qle (pv 5) qah) qad)) (qaa (qc4 (qsy (K:=K) rfl) (qaw (qaa qah (qaa (qar qle (pv 5) qah) qad))) qfJ (qdq (pv 5))) qad))))) (qar qbf (pec C_44 hr (qaa (pv 4) (qaa qah qad))) qah) (fun _ _=>rfl)))) qam)
   (qac (qax (i:=8) sc.nd rfl (Or.inl rfl) (qaw qad))
   (qac (qdT PassesOwn.never rfl (qbq (by rfl) T.n_range (qaa (qar qbf (pec C_44 hr (qaa (pv 4) (qaa qah qad))) (qar qby (pv 3) qah)) qad)) (qaF (i:=6) sc.nd rfl (Or.inl rfl)) (qac (qax (i:=9) sc.nd rfl (Or.inl rfl) (qar qbf (pec C_44 hr (qaa (pec C_33 hr (qaa (pv 0) (qaa (qar qby (qar qby (pv 1) qah) (pv 6)) qad))) (qaa (qar qby qah (pv 7)) qad))) (pv 5)))
   (qac (qaA (qap qm2 (pv 7) qah (qat _)) (qag (qax (i:=9) sc.nd rfl (Or.inl rfl) (qar qkv (pv 9) (qar qbf (pec C_44 hr (qaa (pec C_33 hr (qaa (pv 0) (qaa (qar qby (qar qby (pv 1) qah) (pv 6)) qad))) (qaa qah qad))) (pv 5))))) qam)
   (qag (qbT (qb3 ygj ygk ygl qbZ (pv 8) (qaa (pv 9) qad)))))))
   (qag (qao (qau (qf6 (P:=P) (w:=w) (K:=K) rfl rfl rfl rfl) (by rfl) T.n_sorted PyProof.Rows.boot_sorted (qaa (qdF (qhp (P:=P) (w:=w) (K:=K) rfl rfl rfl rfl) (by rfl) T.n_set PyProof.Rows.boot_set (qaa (pv 8) qad)) qad)))))))))))),?_⟩
 refine rdg (σ':=[some x0,some x1,some x2,some x3,none,none,none,none,none,none]) rfl ?_
 obtain ⟨a,ns,st,m,mo,rfl,hS,hl,rfl,hst,rfl,hm,rfl,hmo,q⟩:=h
 walk_at "rd"
 refine ⟨_,_,rfl,a,ns,st,rfl,hS,hl,rfl,by omega,fun first=>⟨by omega,by omega,?_⟩⟩
 rw [yel]
 have pp:=yah m
 have p8:=qj9 hm
 refine qk8 (fun i σ H'=>∃v,σ=[some (.ref a),some (.int st),some (.int m),some (.int mo),some (.int first),some (.int (2^i:Nat)),v,none,none,none]/\H'=H) ⟨none,rfl,rfl⟩ ?_ ?_
 . rintro i σ H' hi ⟨v,rfl,rfl⟩ N hN
   (try walk_at "rd")
   exact ⟨.inl ⟨by decide,by decide⟩,hN _ _ ⟨_,by rw [dbl],rfl⟩⟩
 rintro σ H' ⟨v,rfl,rfl⟩
 (try walk_at "rd")
 refine ⟨_,_,rfl,first,1,rfl,rfl,by omega,?_⟩
 (try walk_at "rd")
 have ew:((qa7 first 1:Nat):Int)%8=((qa7 first 1%8:Nat):Int):=rfl
 rw [ew]
 have w8:qa7 first 1%8<8:=ydb _ (by decide)
 generalize qa7 first 1%8=way at w8 ⊢
 refine ⟨by decide,qoC (fun h0=>?_) fun h0=>?_⟩
 . refine ⟨by omega,by omega,?_⟩
   rw [yel]
   refine qe8 (fun k=>decide (Fam.pc 8 k=qa7 first 2%(m+1))) (fun k => .int (k:Nat)) (by omega) (fun k hk H1 sm R R' r1 r2=>?_) fun H1 p sm hp=>?_
   . (try walk_at "rd")
     refine ⟨_,rfl,k,rfl,by omega,⟨_,_,rfl,first,2,rfl,rfl,by omega,?_⟩⟩
     (try walk_at "rd")
     refine ⟨by omega,qlW (b:=decide (Fam.pc 8 k=qa7 first 2%(m+1))) ?_ (fun hc=>r1 hc _ (qas.refl _)) fun hc=>r2 hc _ (qas.refl _)⟩
     rw [decide_eq_true_eq]
     have:((qa7 first 2:Nat):Int)%((m:Int)+1)=((qa7 first 2%(m+1):Nat):Int):=rfl
     rw [this]
     omega
   . rw [qi5]
     have hms:qa7 first 2%(m+1)<=8:=by have:=ydb (qa7 first 2) (show 0<m+1 by omega);omega
     refine q p _ _ ?_ (sm.trans (qas.new hp)) qai (ybg.sublist yba) (fun b hb=>ybh.mp (yay.mp hb).1) (qix m hm _ hms)
     exact qaQ sm hp
 refine qoC (fun h1=>?_) fun h1=>?_
 . have e1:((2^m:Nat):Int)-1=((2^m-1:Nat):Int):=by omega
   rw [e1]
   refine ⟨qaH (by simp),fun p0 hp0=>?_⟩
   generalize g0:upd H' p0 _=G0
   have a0:=qaJ g0
   have t0:=qav g0 hp0
   refine ⟨qaH (by simp),fun p1 hp1=>?_⟩
   generalize g1:upd G0 p1 _=G1
   have a1:=qaJ g1
   have n1:=qaQ t0 hp1
   have t1:=t0.trans (qav g1 hp1)
   have a0:=qav g1 hp1 _ _ a0
   refine ⟨qaH (by simp),fun p2 hp2=>?_⟩
   generalize g2:upd G1 p2 _=G2
   have a2:=qaJ g2
   have n2:=qaQ t1 hp2
   have t2:=t1.trans (qav g2 hp2)
   have a0:=qav g2 hp2 _ _ a0
   have a1:=qav g2 hp2 _ _ a1
   refine ⟨qaH (by simp),fun p3 hp3=>?_⟩
   generalize g3:upd G2 p3 _=G3
   have a3:=qaJ g3
   have t3:=t2.trans (qav g3 hp3)
   have a0:=qav g3 hp3 _ _ a0
   have a1:=qav g3 hp3 _ _ a1
   have a2:=qav g3 hp3 _ _ a2
   refine ⟨p3,_,rfl,SqL.of a3,fun p4 hp4=>?_⟩
   have ec:([V.int 0,V.int ((2^m-1:Nat))]).take (2^m)=nV (([0,2^m-1]:List Nat).take (2^m)):=by
     rw [nV,nI,List.map_take,List.map_take]
     rfl
   rw [qnI,ec]
   generalize g4:upd G3 p4 _=G4
   have a4:=qaJ g4
   have n4:=qaQ t3 hp4
   have t4:=t3.trans (qav g4 hp4)
   have a0:=qav g4 hp4 _ _ a0
   have a1:=qav g4 hp4 _ _ a1
   have a2:=qav g4 hp4 _ _ a2
   refine ⟨qaH (by simp),fun p5 hp5=>?_⟩
   generalize g5:upd G4 p5 _=G5
   have a5:=qaJ g5
   have t5:=t4.trans (qav g5 hp5)
   have a0:=qav g5 hp5 _ _ a0
   have a1:=qav g5 hp5 _ _ a1
   have a2:=qav g5 hp5 _ _ a2
   have a4:=qav g5 hp5 _ _ a4
   refine ⟨_,_,rfl,first,2,rfl,rfl,by omega,?_⟩
   (try walk_at "rd")
   have e4:((qa7 first 2:Nat):Int)%4=((qa7 first 2%4:Nat):Int):=rfl
   rw [e4]
   have w4:qa7 first 2%4<4:=ydb _ (by decide)
   generalize qa7 first 2%4=j at w4 ⊢
   refine ⟨by decide,?_⟩
   have hj:j=0\/j=1\/j=2\/j=3:=by omega
   rcases hj with rfl | rfl | rfl | rfl
   . exact qbg (SqL.of a5) rfl (q p0 [] _ hp0 t5 a0 List.Pairwise.nil (fun b hb=>by cases hb) (by decide))
   . exact qbg (SqL.of a5) rfl (q p1 [0] _ n1 t5 a1 (by simp) (fun b hb=>by simp at hb;omega) (by decide))
   . exact qbg (SqL.of a5) rfl (q p2 [2^m-1] _ n2 t5 a2 (by simp) (fun b hb=>by simp at hb;omega) (by simp))
   . exact qbg (SqL.of a5) rfl (q p4 _ _ n4 t5 a4 qjr.1 qjr.2 (by rw [yee];simp;omega))
 refine ⟨qaH (by simp),fun p0 hp0=>?_⟩
 generalize g0:upd H' p0 _=G0
 have a0:=qaJ g0
 have t0:=qav g0 hp0
 refine ⟨_,_,rfl,first,3,rfl,rfl,by omega,?_⟩
 (try walk_at "rd")
 have e3:((qa7 first 3:Nat):Int)%((mo:Int)+1)=((qa7 first 3%(mo+1):Nat):Int):=rfl
 rw [e3,yel]
 have w3:qa7 first 3%(mo+1)<mo+1:=ydb _ (by omega)
 generalize qa7 first 3%(mo+1)=cnt at w3 ⊢
 refine ⟨by omega,by omega,by omega,?_⟩
 have hS0:=t0.seq hS
 refine qk8 (fun i σ H2=>∃v1 v2 fs,σ=[some (.ref a),some (.int st),some (.int m),some (.int mo),some (.int first),some (.int (2^m:Nat)),v1,some (.int way),some (.ref p0),v2]/\H2=upd G0 p0 (.lst (nV fs))/\fs.length=i/\∀b∈fs,b<2^m) ⟨_,none,[],rfl,?_,rfl,fun b hb=>by cases hb⟩ ?_ ?_
 . rw [<-g0,qeR];rfl
 . rintro i σ H2 hi ⟨v1,v2,fs,rfl,rfl,hlen,hb⟩ N0 hN0
   have t1:qas H' (upd G0 p0 (.lst (nV fs))):=by rw [<-g0,qeR];exact qas.new hp0
   have hS1:=t1.seq hS
   (try walk_at "rd")
   refine ⟨_,_,rfl,a,ns,st+1+i,rfl,hS1,hl,by simp,by omega,fun c1=>⟨_,_,rfl,c1,4+way,rfl,by simp,by omega,?_⟩⟩
   (try walk_at "rd")
   have ec:((qa7 c1 (4+way):Nat):Int)%((2^m:Nat):Int)=((qa7 c1 (4+way)%2^m:Nat):Int):=rfl
   rw [ec]
   have wc:qa7 c1 (4+way)%2^m<2^m:=ydb _ pp
   generalize qa7 c1 (4+way)%2^m=one at wc ⊢
   refine ⟨by omega,?_⟩
   refine qaI (fun σ' H2=>∃b:Nat,b<2^m/\σ'=[some (.ref a),some (.int st),some (.int m),some (.int mo),some (.int first),some (.int (2^m:Nat)),some (.int (i:Nat)),some (.int way),some (.ref p0),some (.int b)]/\H2=upd G0 p0 (.lst (nV fs))) ?_ fun N hN=>?_
   . rintro σ' H2 ⟨b,hb2,rfl,rfl⟩
     (try walk_at "rd")
     refine ⟨qiX (by rw [qeq];omega),hN0 _ _ ⟨_,_,fs++[b],rfl,by rw [qpj],by simp [hlen],fun c hc=>?_⟩⟩
     rcases yat.mp hc with z | z
     . exact hb c z
     . have:c=b:=by simpa using z
       subst this
       exact hb2
   . (try walk_at "rd")
     refine qoC (fun h5=>?_) fun h5=>hN _ _ ⟨one,wc,rfl,rfl⟩
     refine ⟨_,_,rfl,a,ns,st+1+i,rfl,hS1,hl,by simp,by omega,fun c2=>⟨_,_,rfl,c2,5,rfl,rfl,by omega,?_⟩⟩
     (try walk_at "rd")
     have e2:((qa7 c2 5:Nat):Int)%((2^m:Nat):Int)=((qa7 c2 5%2^m:Nat):Int):=rfl
     rw [e2,qiA]
     exact ⟨by omega,hN _ _ ⟨_,ybi Nat.and_le_left wc,rfl,rfl⟩⟩
 . rintro σ H2 ⟨v1,v2,fs,rfl,rfl,hlen,hb⟩
   (try walk_at "rd")
   have t1:qas H' (upd G0 p0 (.lst (nV fs))):=by rw [<-g0,qeR];exact qas.new hp0
   refine ⟨p0,_,rfl,SqL.of qai,by simp;omega,fun p6 hp6=>?_⟩
   generalize g6:upd _ p6 _=G6
   have a6:=qaJ g6
   have t6:=t1.trans (qav g6 hp6)
   have ld:(qdS (nI fs)).length<=fs.length:=ybt (qlt _) (by simp)
   refine ⟨p6,_,rfl,.inr a6,by omega,fun p7 ms hp7 m1 m2=>?_⟩
   have lsd:(sd fs).length<=fs.length:=by
     have:=m1.length_eq
     rw [qe3 m1 m2] at this
     simp at this
     omega
   rw [qe3 m1 m2]
   exact q p7 (sd fs) _ (qaQ t6 hp7) (t6.trans (qas.new hp7)) qai (qii fs) (fun b hb2=>hb b (qoO.mp hb2)) (by omega)
abbrev qbw:Stmt:=top 89
theorem qdD:qal ["_law_cell_here", "_law_count", "_law_letters", "_law_size_here", "_law_words_here", "_law_long", "_law_k", "_law_word"] ["_law_cell_here", "_law_count"] (qab qbw):=fsc
theorem qll {n:Nat} {G:Nat->Str} (hn:n<=8) (h:∀k,k<n->Tx.Wd (G k)) (h1:∀i j,i<j->j<n->G i≠G j) (h2:∀k,k<n->G k ≠ "none"):Tx.Wds ((List.range n).map G):=by
 refine ⟨by simpa using hn,?_,fun w hw=>?_,fun hw=>?_⟩
 . unfold List.Nodup
   rw [ybo]
   exact (ybg).imp_of_mem fun _ hb hlt=>h1 _ _ hlt (ybh.mp hb)
 . obtain ⟨k,hk,rfl⟩:=ybn.mp hw
   exact h k (ybh.mp hk)
 . obtain ⟨k,hk,e⟩:=ybn.mp hw
   exact h2 k (ybh.mp hk) e
theorem qr8 {ys:List Str} (h:∀y∈ys,∃c,y=⟨#[c]⟩/\c<=109):∀c∈Tx.sg (_root_.PySem.Txt.join ("" : Str) ys),c<=109:=fun c hc=>by
 rw [qdL] at hc
 obtain ⟨l,hl,hcl⟩:=yfp.mp hc
 obtain ⟨y,hy,rfl⟩:=ybn.mp hl
 obtain ⟨d,rfl,hd⟩:=h y hy
 rw [show c=d from by simpa [Tx.sg] using hcl]
 exact hd
theorem qjz {z:Str} (h:∀c∈Tx.sg z,c<=109):z ≠ "none" := fun e=>by
 have:=h 110 (by rw [e];decide +kernel)
 omega
theorem qrx {n j:Nat} (h:j<n):ixN n (j:Int)=some j:=by
 unfold ixN
 rw [if_pos (by omega),if_pos (by omega),yel]
def one (x:Nat):Str:=⟨#[x]⟩
theorem qgO (l:List Nat):Tx.sg (_root_.PySem.Txt.join ("" : Str) (l.map one))=l:=by
 rw [qdL,ydg]
 induction l with
 | nil=>rfl
 | cons x l ih =>
   rw [ych,yfo,ih]
   rfl
def qdR (w:Str):Str:=if w = "none" then "nones" else w
theorem qnH (w:Str):qdR w ≠ "none" := by
 unfold qdR
 split
 . decide +kernel
 . rename_i h
   exact h
theorem qnU {v w:Str} (hl:v.length=w.length) (h:qdR v=qdR w):v=w:=by
 have l4:("none" : Str).length=4:=by decide +kernel
 have l5:("nones" : Str).length=5:=by decide +kernel
 unfold qdR at h
 by_cases a:v = "none" <;> by_cases b:w = "none"
 . rw [a,b]
 . rw [if_pos a,if_neg b] at h
   rw [<-h,a] at hl
   omega
 . rw [if_neg a,if_pos b] at h
   rw [h,b] at hl
   omega
 . rw [if_neg a,if_neg b] at h
   exact h
theorem qrw {y:Str} (e:¬y=Str.ofString "none"):y++Str.empty=qdR y:=by
 unfold qdR
 rw [if_neg e]
 show (⟨y.cps++#[]⟩:Str)=y
 rw [Array.append_empty]
theorem qqJ {y r:Str} (e:y=Str.ofString "none") (h:∀c∈Tx.sg r,c∈Tx.sg (Str.ofString "s")) (hl:r.length=1):y++r=qdR y:=by
 rw [<-Tx.len_sg] at hl
 have e115:Tx.sg (Str.ofString "s")=[115]:=by decide +kernel
 have es:Tx.sg r=[115]:=by
   match hh:Tx.sg r,hl with
   | [x],_ =>
     have:=h x (by rw [hh];exact ybb)
     rw [e115] at this
     rw [ydi.mp this]
 have er:r=Str.ofString "s" := by
   have:=es.trans e115.symm
   cases r
   exact congrArg Str.mk (Array.toList_inj.mp this)
 rw [er,e]
 unfold qdR
 rw [if_pos rfl]
 decide +kernel
def wdN (b:List Nat) (u x k:Nat):Str:=_root_.PySem.Txt.join ("" : Str) ((b.set u (97+(x+3*k)%26)).map one)
theorem qfr (b:List Nat) (u x k:Nat):(wdN b u x k).length=b.length:=by
 rw [<-Tx.len_sg,wdN,qgO,yeo]
theorem qqr {n u x:Nat} {b:List Nat} (hn:n<=8) (h1:1<=b.length) (h8:b.length<=8) (hl:∀y∈b,97<=y/\y<=122) (hu:u<b.length):Tx.Wds ((List.range n).map fun k=>qdR (wdN b u x k)):=by
 refine qll (by omega) (fun k hk=>?_) (fun i j hij hj e=>?_) fun k _=>qnH _
 . unfold qdR
   split
   . exact ⟨by decide +kernel,by decide +kernel,by decide +kernel⟩
   . refine ⟨by rw [qfr];exact h1,by rw [qfr];exact h8,fun c hc=>?_⟩
     rw [wdN,qgO] at hc
     rcases List.mem_or_eq_of_mem_set hc with h | h
     . exact hl c h
     . omega
 . have e:=congrArg Tx.sg (qnU (by rw [qfr,qfr]) e)
   rw [wdN,wdN,qgO,qgO] at e
   have e:=congrArg (fun l=>l[u]?) e
   simp only [yds hu] at e
   have e:=Option.some.inj e
   omega
def qfD (K:W.Frag):Sp:=sp2 fun x y H Q=>∃(c:Int) (n:Nat),x = .int c/\y = .int (n:Nat)/\n<=8/\∀(p:Addr) (ws:List Str) (H':Hp),H p=none->qas H H'->H' p=some (.lst (sV ws))->Tx.Wds ws->ws.length=n->Q (.ref p) H'
theorem qgK {f:Addr} {fd:FuncData} (F:Fun K "_law_words" "_law_words" qbw f fd) (T:Txt mg) {f_44:Addr} {fd_44:FuncData} (C_44:Cal P w K mg base "_law_mix" 1 ["_law_cell_here", "_law_k"] qjS f_44 fd_44):qaM P w K mg base CX0 2 f fd ["_law_cell_here", "_law_count"] (qfD K):=by
 have sc:=qdD
 refine F.ok qdD (fun vs H Q E h=>by obtain ⟨_,_,rfl,_⟩:=h;rfl) (fun cdv A outer s H vs Q E hr h=>?_)
 obtain ⟨x0,x1,rfl,h⟩:=h
 refine ⟨_,(qac (qax (i:=2) sc.nd rfl (Or.inr rfl) qaf)
   (qac (qax (i:=3) sc.nd rfl (Or.inl rfl) (qar qby qah (qar qbf (pec C_44 hr (qaa (pv 0) (qaa qah qad))) qah)))
   (qac (qax (i:=4) sc.nd rfl (Or.inl rfl) (qaw qad))
   (qac (qax (i:=5) sc.nd rfl (Or.inr rfl) (qb3 ygm ygn ygo (qcD (K:=K) rfl) qaf (qaa (qcr (N:=["_law_j", "_law_letters", "_law_cell_here"]) (nt:=1) (caps:=[2,0]) qbt rfl (qbq (by rfl) T.n_range (qaa qah qad)) (fun _ _ _ _ _=>(qaF (i:=0) (show List.Nodup (α:=Str) ["_law_j", "_law_letters", "_law_cell_here"] from by decide +kernel) rfl (Or.inl rfl))) qbH (fun _ _ _ _ _=>qb0) (fun _ _ _ _ _=>(qdp (pv 1) (qar qbf (pec C_44 hr (qaa (pv 2) (qaa (qar qby qah (pv 0)) qad))) qah) (fun _ _=>rfl)))) qad)))
   (qac (qaA (qap (qaz (K:=K) rfl hr.units0) (qar qbf (pec C_44 hr (qaa (pv 0) (qaa qah qad))) qah) qah (qat _)) (qag (qao (qcr (N:=["_law_k", "_law_long"]) (nt:=1) (caps:=[5]) qbt rfl (qbq (by rfl) T.n_range (qaa (pv 1) qad)) (fun _ _ _ _ _=>(qaF (i:=0) (show List.Nodup (α:=Str) ["_law_k", "_law_long"] from by decide +kernel) rfl (Or.inl rfl))) qbH (fun _ _ _ _ _=>qb0) (fun _ _ _ _ _=>(qc4 qoj (pv 1) qfJ (qdq (qar qby (pv 0) qah))))))) qam)
   (qac (qaA (qap (qaz (K:=K) rfl hr.units0) (qar qbf (pec C_44 hr (qaa (pv 0) (qaa qah qad))) qah) qah (qat _)) (qag (qao (qcr (N:=["_law_k", "_law_long"]) (nt:=1) (caps:=[5]) qbt rfl (qbq (by rfl) T.n_range (qaa (pv 1) qad)) (fun _ _ _ _ _=>(qaF (i:=0) (show List.Nodup (α:=Str) ["_law_k", "_law_long"] from by decide +kernel) rfl (Or.inl rfl))) qbH (fun _ _ _ _ _=>qb0) (fun _ _ _ _ _=>(qc4 qoj (pv 1) (qdq (qar qle qah (pv 0))) qfJ))))) qam)
   (qac (qdT PassesOwn.never rfl (qbq (by rfl) T.n_range (qaa (pv 1) qad)) (qaF (i:=6) sc.nd rfl (Or.inl rfl)) (qac (qlx (i:=7) sc.nd rfl rfl (by rfl) (N:=["_law_j", "_law_letters", "_law_cell_here"]) (nt:=1) (caps:=[2,0]) qbt rfl (qbq (by rfl) T.n_range (qaa (pv 3) qad)) (fun _ _ _ _ _=>(qaF (i:=0) (show List.Nodup (α:=Str) ["_law_j", "_law_letters", "_law_cell_here"] from by decide +kernel) rfl (Or.inl rfl))) qbH (fun _ _ _ _ _=>qb0) (fun _ _ _ _ _=>(qdp (pv 1) (qar qbf (pec C_44 hr (qaa (pv 2) (qaa (qar qby qah (pv 0)) qad))) qah) (fun _ _=>rfl))))
   (qac (qor (qdp (pv 2) (qar qbf (qar qby (pec C_44 hr (qaa (pv 0) (qaa qah qad))) (qar qcQ qah (pv 6))) qah) (fun _ _=>rfl)) (qrU (pv 7) (qar qbf (pec C_44 hr (qaa (pv 0) (qaa qah qad))) (pv 3)) qn2))
   (qag (qbT (qb3 ygj ygk ygl qbZ (pv 4) (qaa (qb3 ygm ygn ygo (qcD (K:=K) rfl) qaf (qaa (pv 7) qad)) qad)))))))
   (qag (qao (qcr (N:=["_law_word"]) (nt:=1) (caps:=[]) qbt rfl (qb1 (pv 4)) (fun _ _ _ _ _=>(qaF (i:=0) (show List.Nodup (α:=Str) ["_law_word"] from by decide +kernel) rfl (Or.inl rfl))) qbH (fun _ _ _ _ _=>qb0) (fun _ _ _ _ _=>(qar qaY (pv 0) (qar qpK qaf (qdF qlF (by rfl) T.n_int PyProof.Rows.boot_int (qaa (qgE (qaz (K:=K) rfl hr.units0) (pv 0) qaf (qat _)) qad))))))))))))))),?_⟩
 refine rdg (σ':=[some x0,some x1,none,none,none,none,none,none]) rfl ?_
 obtain ⟨c,n,rfl,rfl,hn,q⟩:=h
 walk_at "rd"
 have hnn:(n:Int)<2^62:=by omega
 have hn0:-2^62<=(n:Int):=by omega
 have b13:∀k,qa7 c k%13<13:=fun k=>ydb _ (by decide)
 have b26:∀k,qa7 c k%26<26:=fun k=>ydb _ (by decide)
 refine ⟨_,_,rfl,c,40,rfl,rfl,by decide,?_⟩
 (try walk_at "rd")
 refine ⟨by decide,qaH (by simp),fun p hp=>⟨rfl,by decide,by decide,?_⟩⟩
 generalize g1:upd H p _=G1
 have a1:=qaJ g1
 have t1:=qav g1 hp
 rw [show Int.toNat 8=8 from rfl]
 refine qe8 (fun _=>true) (fun k => .str ⟨#[97+qa7 c (41+k)%13]⟩) (by decide) (fun k hk H1 s1 R R' r1 r2=>?_) fun H1 p1 s1 hp1=>?_
 . (try walk_at "rd")
   refine ⟨_,_,rfl,c,41+k,rfl,by simp,by omega,?_⟩
   (try walk_at "rd")
   have e:=b13 (41+k)
   refine ⟨by decide,by omega,by omega,by rw [show (Str.ofString "abcdefghijklmnopqrstuvwxyz").length=26 from qiZ];omega,_,qkD _ (by omega),?_⟩
   exact r1 rfl _ (qas.refl _)
 rw [ygp.mpr fun _ _=>rfl,qgh]
 generalize g2:upd H1 p1 _=G2
 have a2:=qaJ g2
 have t2:=(t1.trans s1).trans (qav g2 hp1)
 have a1:=qav g2 hp1 _ _ (s1 _ _ a1)
 refine ⟨_,p1,_,rfl,rfl,SqL.of a2,qbX (M:=1) (N:=8) (fun y hy=>?_) (by simp) (by decide +kernel) (by decide),?_⟩
 . obtain ⟨k,_,rfl⟩:=ybn.mp hy
   exact yax 1
 obtain ⟨hz8,hzl⟩:=qqq (ys:=(List.range 8).map fun k:Nat=>(⟨#[97+qa7 c (41+k)%13]⟩:Str)) fun y hy=>by
   obtain ⟨k,_,rfl⟩:=ybn.mp hy
   have:=b13 (41+k)
   exact ⟨_,rfl,by omega,by omega⟩
 have hz13:=qr8 (ys:=(List.range 8).map fun k:Nat=>(⟨#[97+qa7 c (41+k)%13]⟩:Str)) fun y hy=>by
   obtain ⟨k,_,rfl⟩:=ybn.mp hy
   have:=b13 (41+k)
   exact ⟨_,rfl,by omega⟩
 rw [ycj,ygq] at hz8
 generalize _root_.PySem.Txt.join (Str.ofString "") ((List.range 8).map fun k:Nat=>(⟨#[97+qa7 c (41+k)%13]⟩:Str))=z at hz8 hzl hz13 ⊢
 have zb:z.length<=100000:=by omega
 refine ⟨_,_,rfl,c,52,rfl,rfl,by decide,?_⟩
 (try walk_at "rd")
 refine ⟨by decide,qoC (fun h1=>⟨hn0,hnn,?_⟩) fun h1=>⟨_,_,rfl,c,52,rfl,rfl,by decide,?_⟩⟩
 . rw [yel]
   refine qe8 (fun _=>true) (fun k => .str (_root_.PySem.Txt.slice z none (some ((k+1:Nat):Int)))) (by omega) (fun k hk H2 s2 R R' r1 r2=>?_) fun H2 p2 s2 hp2=>?_
   . (try walk_at "rd")
     exact ⟨_,rfl,zb,r1 rfl _ (qas.refl _)⟩
   rw [ygp.mpr fun _ _=>rfl,qgh]
   have ln:∀k,k<n->(_root_.PySem.Txt.slice z none (some ((k+1:Nat):Int))).length=k+1:=fun k hk=>qrI (by omega)
   refine q p2 _ _ (qaQ (t2.trans s2) hp2) ((t2.trans s2).trans (qas.new hp2)) qai (qll (by omega) (fun k hk=>?_) (fun i j hij hj e=>?_) fun k hk=>qjz fun c hc=>hz13 c (qfd c hc)) (by simp)
   . have:=ln k hk
     exact ⟨by omega,by omega,qjf hzl⟩
   . have z1:=ln i (by omega)
     have z2:=ln j hj
     rw [e] at z1
     omega
 (try walk_at "rd")
 refine ⟨by decide,qoC (fun h2=>⟨hn0,hnn,?_⟩) fun h2=>⟨hn0,hnn,?_⟩⟩
 . rw [yel]
   refine qe8 (fun _=>true) (fun k => .str (_root_.PySem.Txt.slice z (some ((7-k:Nat):Int)) none)) (by omega) (fun k hk H2 s2 R R' r1 r2=>?_) fun H2 p2 s2 hp2=>?_
   . (try walk_at "rd")
     rw [show (7:Int)-(k:Nat)=((7-k:Nat):Int) by omega]
     exact ⟨_,rfl,zb,r1 rfl _ (qas.refl _)⟩
   rw [ygp.mpr fun _ _=>rfl,qgh]
   have ln:∀k,k<n->(_root_.PySem.Txt.slice z (some ((7-k:Nat):Int)) none).length=k+1:=fun k hk=>by
     have:=qm3 (z:=z) (i:=7-k) (by omega)
     omega
   refine q p2 _ _ (qaQ (t2.trans s2) hp2) ((t2.trans s2).trans (qas.new hp2)) qai (qll (by omega) (fun k hk=>?_) (fun i j hij hj e=>?_) fun k hk=>qjz fun c hc=>hz13 c (qfd c hc)) (by simp)
   . have:=ln k hk
     exact ⟨by omega,by omega,qjf hzl⟩
   . have z1:=ln i (by omega)
     have z2:=ln j hj
     rw [e] at z1
     omega
 rw [yel]
 have hs:=ydb (qa7 c 40) (show 0<8 by decide)
 have es:(1:Int)+((qa7 c 40:Nat):Int)%8=((1+qa7 c 40%8:Nat):Int):=by omega
 rw [es]
 have hS1:1<=1+qa7 c 40%8:=by omega
 have hS8:1+qa7 c 40%8<=8:=by omega
 generalize 1+qa7 c 40%8=S at hS1 hS8 ⊢
 have ub:=ydb (qa7 c 50) (show 0<S by omega)
 refine qk8 (fun i σ H'=>∃(v6 v7:Option V),σ=[some (.int c),some (.int (n:Nat)),some (.str (Str.ofString "abcdefghijklmnopqrstuvwxyz")),some (.int (S:Nat)),some (.ref p),some (.str z),v6,v7]/\qas H H'/\H' p=some (.lst (sV ((List.range i).map (wdN ((List.range S).map fun j=>97+qa7 c (41+j)%26) (qa7 c 50%S) (qa7 c 51)))))) ⟨none,none,rfl,t2,a1⟩ ?_ ?_
 . rintro i σ H3 hi ⟨v6,v7,rfl,s3,a3⟩ N hN
   (try walk_at "rd")
   refine ⟨by omega,by omega,?_⟩
   rw [yel]
   refine qe8 (fun _=>true) (fun j => .str (one (97+qa7 c (41+j)%26))) (by omega) (fun j hj H4 s4 R R' r1 r2=>?_) fun H4 p4 s4 hp4=>?_
   . (try walk_at "rd")
     refine ⟨_,_,rfl,c,41+j,rfl,by simp,by omega,?_⟩
     (try walk_at "rd")
     have e:=b26 (41+j)
     refine ⟨by decide,by omega,by omega,by rw [show (Str.ofString "abcdefghijklmnopqrstuvwxyz").length=26 from qiZ];omega,_,qkD _ (by omega),?_⟩
     exact r1 rfl _ (qas.refl _)
   rw [ygp.mpr fun _ _=>rfl,qgh]
   generalize g4:upd H4 p4 _=G4
   have a4:=qaJ g4
   have t4:=(s3.trans s4).trans (qav g4 hp4)
   have np:p≠p4:=qay (s4 _ _ a3) hp4
   have a3:=qav g4 hp4 _ _ (s4 _ _ a3)
   have np4:H p4=none:=qaQ (s3.trans s4) hp4
   have ex:(((qa7 c 51:Nat):Int)+3*(i:Nat))%26=(((qa7 c 51+3*i)%26:Nat):Int):=by omega
   have x26:=ydb (qa7 c 51+3*i) (show 0<26 by decide)
   refine ⟨_,_,rfl,c,51,rfl,rfl,by decide,.inl ⟨by decide,by decide⟩,?_⟩
   (try walk_at "rd")
   rw [ex]
   refine ⟨by decide,by omega,by omega,by rw [show (Str.ofString "abcdefghijklmnopqrstuvwxyz").length=26 from qiZ];omega,_,qkD _ (by omega),?_⟩
   refine ⟨_,_,rfl,c,50,rfl,rfl,by decide,?_⟩
   (try walk_at "rd")
   refine ⟨by omega,p4,_,_,qa7 c 50%S,rfl,rfl,a4,qrx (by rw [qaK,ycj,ygq];exact ub),?_⟩
   rw [yel]
   have es:(sV ((List.range S).map fun j=>one (97+qa7 c (41+j)%26))).set (qa7 c 50%S) (.str ⟨#[97+(qa7 c 51+3*i)%26]⟩)=sV ((((List.range S).map fun j=>97+qa7 c (41+j)%26).set (qa7 c 50%S) (97+(qa7 c 51+3*i)%26)).map one):=by
     unfold sV
     simp only [List.map_set,ydg]
     rfl
   rw [es]
   generalize g5:upd G4 p4 _=G5
   have a5:G5 p4=some (.lst (sV ((((List.range S).map fun j=>97+qa7 c (41+j)%26).set (qa7 c 50%S) (97+(qa7 c 51+3*i)%26)).map one))):=by rw [<-g5];exact qai
   have b3:G5 p=some (.lst (sV ((List.range i).map (wdN ((List.range S).map fun j=>97+qa7 c (41+j)%26) (qa7 c 50%S) (qa7 c 51))))):=by rw [<-g5,qaq np];exact a3
   have t5:qas H G5:=by rw [<-g5];exact t4.upd np4
   refine ⟨qgJ b3,rfl,_,p4,_,rfl,rfl,SqL.of a5,qbX (M:=1) (N:=8) (fun y hy=>?_) (by rw [ycj,yeo,ycj,ygq];exact hS8) (by decide +kernel) (by decide),?_⟩
   . obtain ⟨k,_,rfl⟩:=ybn.mp hy
     exact yax 1
   refine ⟨p,_,_,rfl,rfl,b3,qiX (by rw [qaK,ycj,ygq];omega),hN _ _ ⟨_,_,rfl,t5.upd hp,?_⟩⟩
   rw [qai,yco,ycl]
   show _=some (HO.lst (List.map V.str (_++_)))
   rw [ycl]
   rfl
 . rintro σ H3 ⟨v6,v7,rfl,s3,a3⟩
   (try walk_at "rd")
   refine ⟨⟨_,SqL.of a3⟩,qod (fs:=sV ((List.range n).map (wdN ((List.range S).map fun j=>97+qa7 c (41+j)%26) (qa7 c 50%S) (qa7 c 51)))) (fun _=>true) (fun v=>match v with | .str y => .str (qdR y) | v=>v) (SqL.of a3) (by rw [qaK,ycj,ygq];omega) (fun x hx H4 s4 R R' r1 r2=>?_) fun H4 p4 s4 hp4=>?_⟩
   . obtain ⟨y,hy,rfl⟩:=ybn.mp hx
     obtain ⟨k,hk,rfl⟩:=ybn.mp hy
     have ly:=qfr ((List.range S).map fun j=>97+qa7 c (41+j)%26) (qa7 c 50%S) (qa7 c 51) k
     rw [ycj,ygq] at ly
     generalize wdN ((List.range S).map fun j=>97+qa7 c (41+j)%26) (qa7 c 50%S) (qa7 c 51) k=y at ly r1 ⊢
     (try walk_at "rd")
     have zz:100000<=sizeLine:=by decide
     by_cases e:y=Str.ofString "none"
     . rw [if_pos e]
       refine .inr ⟨_,1,rfl,rfl,by decide,by decide,by decide +kernel,fun r hr hl=>?_⟩
       rw [show (Str.ofString "s").length=1 by decide +kernel] at hl
       refine ⟨_,rfl,by omega,?_⟩
       rw [qqJ e hr (by omega)]
       exact r1 rfl _ (qas.refl _)
     . rw [if_neg e]
       refine .inl ⟨_,rfl,rfl,_,rfl,by rw [show Str.empty.length=0 from rfl];omega,?_⟩
       rw [qrw e]
       exact r1 rfl _ (qas.refl _)
   . rw [ygp.mpr fun _ _=>rfl]
     rw [show (sV ((List.range n).map (wdN ((List.range S).map fun j=>97+qa7 c (41+j)%26) (qa7 c 50%S) (qa7 c 51)))).map (fun v=>match v with | .str y => .str (qdR y) | v=>v)=sV ((List.range n).map fun k=>qdR (wdN ((List.range S).map fun j=>97+qa7 c (41+j)%26) (qa7 c 50%S) (qa7 c 51) k)) from by unfold sV;rw [ydg,ydg,ydg];rfl]
     refine q p4 _ _ (qaQ (s3.trans s4) hp4) ((s3.trans s4).trans (qas.new hp4)) qai (qqr hn (by simpa using hS1) (by simpa using hS8) (fun y hy=>?_) (by simpa using ub)) (by simp)
     obtain ⟨j,_,rfl⟩:=ybn.mp hy
     have:=b26 (41+j)
     omega
abbrev qa1:Stmt:=top 90
theorem qcH:qal ["_law_words_here", "_law_one", "_law_found"] ["_law_words_here", "_law_one"] (qab qa1):=fsc
def qiG (K:W.Frag):Sp:=sp2 fun x y H Q=>∃(p:Addr) (ws:List Str) (a:Nat),x = .ref p/\H p=some (.lst (sV ws))/\Tx.Wds ws/\y = .int (a:Nat)/\a<2^ws.length/\∀H',qas H H'->Q (.str (Tx.sT ws a)) H'
theorem qev {f:Addr} {fd:FuncData} (F:Fun K "_law_set_text" "_law_set_text" qa1 f fd) (T:Txt mg)  : qaM P w K mg base CX0 1 f fd ["_law_words_here", "_law_one"] (qiG K):=by
 have sc:=qcH
 refine F.ok qcH (fun vs H Q E h=>by obtain ⟨_,_,rfl,_⟩:=h;rfl) (fun cdv A outer s H vs Q E hr h=>?_)
 obtain ⟨x0,x1,rfl,h⟩:=h
 refine ⟨_,(qac (qlx (i:=2) sc.nd rfl rfl (by rfl) (N:=["_law_k", "_law_words_here", "_law_one"]) (nt:=1) (caps:=[0,1]) qbt rfl (qbq (by rfl) T.n_range (qaa (qau (qaV (K:=K) rfl) (by rfl) T.n_len PySem.boot_len (qaa (pv 0) qad)) qad)) (fun _ _ _ _ _=>(qaF (i:=0) (show List.Nodup (α:=Str) ["_law_k", "_law_words_here", "_law_one"] from by decide +kernel) rfl (Or.inl rfl))) qbH (fun _ _ _ _ _=>(qiV (qap (qaz (K:=K) rfl hr.units0) (qar qkv (qar qom (pv 2) (pv 0)) qah) qah (qat _)))) (fun _ _ _ _ _=>(qaR (qcl (K:=K) rfl) (pv 1) (pv 0) (fun _ _=>rfl))))
   (qac (qaA (qap (qaz (K:=K) rfl hr.units0) (pv 2) (qaw qad) (qat _)) (qag (qao qaf)) qam)
   (qag (qao (qb3 ygm ygn ygo (qcD (K:=K) rfl) qaf (qaa (pv 2) qad)))))),?_⟩
 refine rdg (σ':=[some x0,some x1,none]) rfl ?_
 obtain ⟨p,ws,a,rfl,f1,hw,rfl,ha,q⟩:=h
 walk_at "rd"
 refine ⟨_,.inl (SqL.of f1),?_⟩
 have h8:=hw.few
 rw [qaK]
 refine ⟨by omega,by omega,?_⟩
 rw [yel]
 refine qe8 (fun k=>a.testBit k) (fun k => .str (ws.getD k Str.empty)) (by omega) (fun k hk H3 s3 R R' r1 r2=>?_) fun H3 p3 s3 hp3=>?_
 . (try walk_at "rd")
   refine ⟨by omega,?_⟩
   cases b:a.testBit k with
   | false =>
     rw [if_neg (by rw [qiu,b];decide)]
     exact r2 b _ (qas.refl _)
   | true =>
     rw [if_pos (by rw [qiu,b])]
     have ek:ws[k]?=some (ws.getD k Str.empty):=by rw [yey,ydc hk];rfl
     exact qbg (SqL.of (s3 _ _ f1)) (qcv ek) (r1 b _ (qas.refl _))
 rw [show ((List.range ws.length).filter fun k=>a.testBit k).map (fun k=>V.str (ws.getD k Str.empty))=sV (Tx.wds ws a) from by unfold Tx.wds;rw [<-qrC hw.few ha];exact qgh _ _]
 have lw:(Tx.wds ws a).length<=8:=by
   unfold Tx.wds
   rw [ycj]
   exact ybt (yff _ _) (by simp)
 have ly:∀y∈Tx.wds ws a,y.length<=8:=fun y hy=>(hw.wd y (Tx.wds_mem hw ha hy)).2.1
 generalize g3:upd H3 p3 _=G3
 have a3:=qaJ g3
 have s3:=s3.trans (qav g3 hp3)
 (try walk_at "rd")
 refine ⟨qaH (by simp),fun p4 hp4=>?_⟩
 generalize g4:upd G3 p4 _=G4
 have a4:=qaJ g4
 have t4:=qav g4 hp4
 have a3:=t4 _ _ a3
 have s4:=s3.trans t4
 refine qkE (SqL.of a3) (SqL.of a4) (qdK _) rfl ?_
 by_cases h0:a=0
 . have e:Tx.wds ws a=[]:=by rw [h0];rfl
   rw [show Tx.sT ws a = "-" from if_pos h0] at q
   rw [e]
   exact ⟨true,rfl,qha (q _ s4)⟩
 . have ne:=Tx.wds_ne hw ha h0
   rw [show Tx.sT ws a=_root_.PySem.Txt.join "+" (Tx.wds ws a) from if_neg h0] at q
   have e:qgf (sV (Tx.wds ws a)) []=false:=by
     rw [show ([]:List V)=sV [] from rfl,qjk]
     exact decide_eq_false ne
   rw [e]
   exact ⟨false,rfl,qfy ⟨rfl,_,p3,_,rfl,rfl,SqL.of a3,qbX (M:=8) (N:=8) ly lw (by rw [Tx.lit_plus];decide) (by decide),q _ s4⟩⟩
abbrev qbV:Stmt:=top 91
theorem qeo:qal ["_law_words_here", "_law_family_here"] ["_law_words_here", "_law_family_here"] (qab qbV):=fsc
def qie (K:W.Frag):Sp:=sp2 fun x y H Q=>∃(p p2:Addr) (ws:List Str) (fs:List Nat),x = .ref p/\H p=some (.lst (sV ws))/\Tx.Wds ws/\y = .ref p2/\H p2=some (.lst (nV fs))/\(∀b∈fs,b<2^ws.length)/\fs.length<=70/\∀H',qas H H'->Q (.str (Tx.fT ws fs)) H'
theorem qhM {f:Addr} {fd:FuncData} (F:Fun K "_law_text" "_law_text" qbV f fd) (T:Txt mg) {f_06:Addr} {fd_06:FuncData} (C_06:Cal P w K mg base "_law_set_text" 1 ["_law_words_here", "_law_one"] (qiG K) f_06 fd_06):qaM P w K mg base CX0 2 f fd ["_law_words_here", "_law_family_here"] (qie K):=by
 have sc:=qeo
 refine F.ok qeo (fun vs H Q E h=>by obtain ⟨_,_,rfl,_⟩:=h;rfl) (fun cdv A outer s H vs Q E hr h=>?_)
 obtain ⟨x0,x1,rfl,h⟩:=h
 refine ⟨_,(qac (qaA (qap (qaz (K:=K) rfl hr.units0) (pv 1) (qaw qad) (qat _)) (qag (qao qaf)) qam)
   (qag (qao (qb3 ygm ygn ygo (qcD (K:=K) rfl) qaf (qaa (qcr (N:=["_law_one", "_law_words_here"]) (nt:=1) (caps:=[0]) qbt rfl (qb1 (pv 1)) (fun _ _ _ _ _=>(qaF (i:=0) (show List.Nodup (α:=Str) ["_law_one", "_law_words_here"] from by decide +kernel) rfl (Or.inl rfl))) qbH (fun _ _ _ _ _=>qb0) (fun _ _ _ _ _=>(pec C_06 hr (qaa (pv 1) (qaa (pv 0) qad))))) qad))))),?_⟩
 refine rdg (σ':=[some x0,some x1]) rfl ?_
 obtain ⟨p,p2,ws,fs,rfl,f1,hw,rfl,f2,hb,hl,q⟩:=h
 walk_at "rd"
 refine ⟨qaH (by simp),fun p4 hp4=>?_⟩
 generalize g4:upd H p4 _=G4
 have a4:=qaJ g4
 have t4:=qav g4 hp4
 have f2:=t4 _ _ f2
 have f1:=t4 _ _ f1
 refine qkE (SqL.of f2) (SqL.of a4) (qlI _) rfl ?_
 by_cases h0:fs=[]
 . rw [show Tx.fT ws fs = "none" from if_pos h0] at q
   subst h0
   exact ⟨true,rfl,qha (q _ t4)⟩
 rw [show Tx.fT ws fs=_root_.PySem.Txt.join " " (fs.map (Tx.sT ws)) from if_neg h0] at q
 have e:qgf (nV fs) []=false:=by
   rw [show ([]:List V)=nV [] from rfl,qoy]
   exact decide_eq_false h0
 rw [e]
 refine ⟨false,rfl,qfy ⟨rfl,⟨_,SqL.of f2⟩,qlY (fs:=fs) (fun _=>true) (fun b => .str (Tx.sT ws b)) (SqL.of f2) (by omega) (fun b hb' H2 s2 R R' r1 r2=>?_) fun H2 p3 s2 hp3=>?_⟩⟩
 . (try walk_at "rd")
   exact ⟨_,_,rfl,p,ws,b,rfl,s2 _ _ f1,hw,rfl,hb b hb',fun H3 s3=>r1 rfl _ s3⟩
 . rw [ygp.mpr fun _ _=>rfl,qgh]
   refine ⟨_,p3,fs.map (Tx.sT ws),rfl,rfl,SqL.of qai,qbX (M:=72) (N:=70) (fun y hy=>?_) (by rw [ycj];exact hl) (by rw [Tx.lit_space];decide) (by decide),q _ ((t4.trans s2).trans (qas.new hp3))⟩
   obtain ⟨b,hb',rfl⟩:=ybn.mp hy
   exact Tx.sT_len hw (hb b hb')
abbrev qda:Stmt:=top 10
theorem qhY:qal ["many", "thing"] ["many", "thing"] (qab qda):=fsc
def qo0:Sp:=sp2 fun m x H Q=>(∃(k:Nat) (i:Int),m = .int k/\x = .int i/\k<=8/\Q (.bl (decide (0<=i)&&decide (i<(2^k:Nat)))) H)\/∃t,qdZ H x=some t/\t ≠ "int" /\ Q (.bl false) H
theorem qkI {f:Addr} {fd:FuncData} (F:Fun K "is_set" "is_set" qda f fd) (T:Txt mg) {f_43:Addr} {fd_43:FuncData} (C_43:Cal P w K mg base "is_whole" 1 ["thing"] qio f_43 fd_43):qaM P w K mg base CX0 2 f fd ["many", "thing"] qo0:=by
 have sc:=qhY
 refine F.ok qhY (fun vs H Q E h=>by obtain ⟨_,_,rfl,_⟩:=h;rfl) (fun cdv A outer s H vs Q E hr h=>?_)
 obtain ⟨x0,x1,rfl,h⟩:=h
 refine ⟨_,(qag (qao (qjp (pec C_43 hr (qaa (pv 1) qad)) (qjw (qgz qn7 qm2 qah (pv 1) (qar qoP qah (pv 0))))))),?_⟩
 refine rdg (σ':=[some x0,some x1]) rfl ?_
 walk_at "rd"
 rcases h with ⟨k,i,rfl,rfl,hk8,q⟩ | ⟨t,hk,hne,q⟩
 . refine ⟨_,rfl, "int",rfl,true,rfl,qha ?_⟩
   walk_at "rd"
   split
   . rename_i h0
     rw [decide_eq_true h0,yez] at q
     refine ⟨qkw (by omega) (by omega) (by decide) (by decide),?_⟩
     rw [qla]
     exact q
   . rename_i h0
     rw [decide_eq_false h0,ydv] at q
     exact q
 . exact ⟨_,rfl,t,hk,false,by rw [qmR hne],qfy q⟩
abbrev qbO:Stmt:=top 18
theorem qeh:qal ["many", "thing", "before", "one"] ["many", "thing"] (qab qbO):=fsc
/-- how far the items are sets that rise,from b on -/
def ql9 (m:Nat):Int->List V->Bool
 | _,[]=>true
 | b,x::r=>match x with | .int i=>decide (0<=i)&&decide (i<(2^m:Nat))&&decide (b<i)&&ql9 m i r | _=>false
/-- the items are of kinds that are told -/
def Kd (H:Hp) (xs:List V):Prop:=∀x∈xs,∃t,qdZ H x=some t
theorem qrl {H:Hp} {x:V} {t:String} (h:qdZ H x=some t) (hn:∀i,x ≠ .int i):t ≠ "int" := by
 intro e
 subst e
 cases x with
 | int i=>exact hn i rfl
 | non=>exact absurd (Option.some.inj h) (by decide)
 | bl b=>exact absurd (Option.some.inj h) (by decide)
 | str z=>exact absurd (Option.some.inj h) (by decide)
 | byt z=>cases h
 | flt z=>cases h
 | ty z=>cases h
 | ref a =>
   unfold qdZ at h
   dsimp only at h
   split at h<;>first | exact absurd (Option.some.inj h) (by decide) | cases h
theorem qpo {m:Nat} {b:Int} {x:V} {r:List V} (hn:∀i,x ≠ .int i):ql9 m b (x::r)=false:=by
 cases x with
 | int i=>exact absurd rfl (hn i)
 | _=>rfl
theorem qn3 {t:String} (h:t ≠ "list"):qkg t "list" = false:=by
 unfold qkg
 rw [show (t == "list")=false from beq_eq_false_iff_ne.mpr h]
 cases (t == "bool")<;>rfl
def qiN (K:W.Frag):Sp:=sp2 fun x y H Q=>∃m:Nat,x = .int m/\m<=8/\((∃(p:Addr) (xs:List V),y = .ref p/\H p=some (.lst xs)/\xs.length<=1000/\Kd H xs/\Q (.bl (decide (xs.length<=70)&&ql9 m (-1) xs)) H)\/∃t,qdZ H y=some t/\t ≠ "list" /\ Q (.bl false) H)
theorem qhe {f:Addr} {fd:FuncData} (F:Fun K "is_family" "is_family" qbO f fd) (T:Txt mg) {f_57:Addr} {fd_57:FuncData} (C_57:Cal P w K mg base "is_set" 2 ["many", "thing"] qo0 f_57 fd_57):qaM P w K mg base CX0 3 f fd ["many", "thing"] (qiN K):=by
 have sc:=qeh
 refine F.ok qeh (fun vs H Q E h=>by obtain ⟨_,_,rfl,_⟩:=h;rfl) (fun cdv A outer s H vs Q E hr h=>?_)
 obtain ⟨x0,x1,rfl,h⟩:=h
 refine ⟨_,(qac (qaA (PW.pt (ql3 (qdy (qcg (qau qci (by rfl) T.n_isinstance PyProof.Rows.boot_isinstance (qaa (pv 1) (qaa (qd3 (v := .ty "list") (by rfl) T.n_list PyProof.Rows.boot_list rfl) qad))))) (qhv (qap qjP (qau (qaV (K:=K) rfl) (by rfl) T.n_len PySem.boot_len (qaa (pv 1) qad)) (qdX T.c_MOST_SETS (by rfl)) (qat _))))) (qag (qao qfX)) qam)
   (qac (qax (i:=2) sc.nd rfl (Or.inl rfl) (qsW qrf qah))
   (qac (qdT PassesOwn.never rfl (qb1 (pv 1)) (qaF (i:=3) sc.nd rfl (Or.inl rfl)) (qac (qaA (PW.pt (ql3 (qdy (qcg (pec C_57 hr (qaa (pv 0) (qaa (pv 3) qad))))) (qhv (qap qn7 (pv 3) (pv 2) (qat _))))) (qag (qao qfX)) qam)
   (qag (qax (i:=2) sc.nd rfl (Or.inl rfl) (pv 3)))))
   (qag (qao qfX))))),?_⟩
 refine rdg (σ':=[some x0,some x1,none,none]) rfl ?_
 obtain ⟨m,rfl,hm,h⟩:=h
 walk_at "rd"
 rcases h with ⟨p,xs,rfl,f1,hl,kd,q⟩ | ⟨t,hk,hne,q⟩
 . refine ⟨_, "list",⟨rfl,rfl⟩, "list",qqR f1,by decide,?_⟩
   rw [if_neg (by decide)]
   refine ⟨p,rfl,_,.inl (SqL.of f1),?_⟩
   (try walk_at "rd")
   by_cases h70:xs.length<=70
   . rw [if_neg (by omega)]
     rw [decide_eq_true h70,yez] at q
     refine ⟨⟨_,SqL.of f1⟩,qhl (xs:=xs) (fun i σ H'=>∃(b:Int) (v:Option V),σ=[some (.int m),some (.ref p),some (.int b),v]/\H'=H/\ql9 m (-1) xs=ql9 m b (xs.drop i)) ⟨-1,none,rfl,rfl,rfl⟩ (fun i σ H' _ ⟨_,_,_,e,_⟩=>e▸SqL.of f1) ?_ ?_⟩
     . rintro i x σ H' hx ⟨b,v,rfl,rfl,ef⟩ N hN
       have hi:=ybr.mp hx
       have ed:xs.drop i=x::xs.drop (i+1):=by rw [List.drop_eq_getElem_cons hi.1,hi.2]
       rw [ed] at ef
       obtain ⟨t,ht⟩:=kd x (ydk hx)
       (try walk_at "rd")
       by_cases hz:∃z,x = .int z
       . obtain ⟨z,rfl⟩:=hz
         refine ⟨_,_,rfl,.inl ⟨m,z,rfl,rfl,hm,?_⟩⟩
         have ef':ql9 m (-1) xs=(decide (0<=z)&&decide (z<(2^m:Nat))&&decide (b<z)&&ql9 m z (xs.drop (i+1))):=ef
         (try walk_at "rd")
         by_cases hs:(decide (0<=z)&&decide (z<(2^m:Nat)))=false
         . rw [if_pos hs]
           rw [ef',hs,ydv,ydv] at q
           exact q
         . rw [if_neg hs]
           rw [(Bool.not_eq_false _).mp hs,yez] at ef'
           by_cases hb:b<z
           . rw [if_neg (by omega)]
             rw [decide_eq_true hb,yez] at ef'
             exact hN _ _ ⟨z,_,rfl,rfl,ef'⟩
           . rw [if_pos (by omega)]
             rw [ef',decide_eq_false hb,ydv] at q
             exact q
       . have hz':∀i,x ≠ .int i:=fun i e=>hz ⟨i,e⟩
         refine ⟨_,_,rfl,.inr ⟨t,ht,qrl ht hz',?_⟩⟩
         (try walk_at "rd")
         rw [ef,qpo hz'] at q
         exact q
     . rintro σ H' ⟨b,v,rfl,rfl,ef⟩
       rw [List.drop_length] at ef
       rw [ef] at q
       (try walk_at "rd")
       exact q
   . rw [if_pos (by omega)]
     rw [decide_eq_false h70,ydv] at q
     exact q
 . refine ⟨_, "list",⟨rfl,rfl⟩,t,hk,by decide,?_⟩
   rw [qn3 hne]
   exact q
abbrev qb6:Stmt:=top 11
theorem qfb:qal ["one"] ["one"] (qab qb6):=fsc
def qfz:Sp:=sp1 fun x H Q=>∃a:Nat,x = .int a/\a<256/\∀H' p,qas H H'->H' p=none->Q (.ref p) (upd H' p (.lst (nV (Fam.nms 8 a))))
theorem qmM:∀a:Nat,a<256->(List.range (Builtin.Int.intBits (a:Int))).filter (fun k=>a.testBit k)=Fam.nms 8 a:=by decide +kernel
theorem qpy:∀a:Nat,a<256->Builtin.Int.intBits (a:Int)<=8:=by decide +kernel
theorem qiS {f:Addr} {fd:FuncData} (F:Fun K "names_in" "names_in" qb6 f fd) (T:Txt mg)  : qaM P w K mg base CX0 1 f fd ["one"] qfz:=by
 have sc:=qfb
 refine F.ok qfb (fun vs H Q E h=>by obtain ⟨_,rfl,_⟩:=h;rfl) (fun cdv A outer s H vs Q E hr h=>?_)
 obtain ⟨x0,rfl,h⟩:=h
 refine ⟨_,(qag (qao (qcr (N:=["k", "one"]) (nt:=1) (caps:=[0]) qbt rfl (qbq (by rfl) T.n_range (qaa (qq0 PySem.F.plainAttrs_int PySem.F.slot_int_bit_length PySem.F.type_int_bit_length qly (pv 0)) qad)) (fun _ _ _ _ _=>(qaF (i:=0) (show List.Nodup (α:=Str) ["k", "one"] from by decide +kernel) rfl (Or.inl rfl))) qbH (fun _ _ _ _ _=>(qiV (qap (qaz (K:=K) rfl hr.units0) (qar qkv (qar qom (pv 1) (pv 0)) qah) qah (qat _)))) (fun _ _ _ _ _=>(pv 0))))),?_⟩
 refine rdg (σ':=[some x0]) rfl ?_
 obtain ⟨a,rfl,ha,q⟩:=h
 walk_at "rd"
 have hb:=qpy a ha
 refine ⟨by simp [tyV],by omega,by omega,?_⟩
 rw [yel]
 refine qe8 (fun k=>a.testBit k) (fun k => .int (k:Nat)) (by omega) (fun k hk H1 sm R R' r1 r2=>?_) fun H1 p sm hp=>?_
 . walk_at "rd"
   refine ⟨by omega,qlW qiu (fun hc=>r1 hc _ (qas.refl _)) fun hc=>r2 hc _ (qas.refl _)⟩
 . rw [qi5,qmM a ha]
   exact q H1 p sm hp
abbrev qdd:Stmt:=top 12
theorem qhT:qal ["names", "one", "k"] ["names"] (qab qdd):=fsc
def qiY (K:W.Frag):Sp:=sp1 fun x H Q=>∃p fs,x = .ref p/\SqL K H p (nV fs)/\(∀k∈fs,k<8)/\Q (.int (Fam.ofN fs:Nat)) H
theorem qlG {fs:List Nat} {i a:Nat} (h:fs[i]?=some a):fs.take (i+1)=fs.take i++[a]:=by rw [yfj,h];rfl
theorem qjd (L:List Nat) (a:Nat):Fam.ofN (L++[a])=Fam.ofN L|||2^a:=by unfold Fam.ofN;rw [yaq];rfl
theorem qkx {f:Addr} {fd:FuncData} (F:Fun K "set_of" "set_of" qdd f fd) (T:Txt mg)  : qaM P w K mg base CX0 1 f fd ["names"] (qiY K):=by
 have sc:=qhT
 refine F.ok qhT (fun vs H Q E h=>by obtain ⟨_,rfl,_⟩:=h;rfl) (fun cdv A outer s H vs Q E hr h=>?_)
 obtain ⟨x0,rfl,h⟩:=h
 refine ⟨_,(qac (qax (i:=1) sc.nd rfl (Or.inl rfl) qah)
   (qac (qdT PassesOwn.never rfl (qb1 (pv 0)) (qaF (i:=2) sc.nd rfl (Or.inl rfl)) (qag (qax (i:=1) sc.nd rfl (Or.inl rfl) (qar qs6 (pv 1) (qar qoP qah (pv 2))))))
   (qag (qao (pv 1))))),?_⟩
 refine rdg (σ':=[some x0,none,none]) rfl ?_
 obtain ⟨p,fs,rfl,hq,hb,q⟩:=h
 walk_at "rd"
 refine ⟨⟨_,hq⟩,qq3 (xs:=nV fs) (fun i σ H'=>∃v,σ=[some (.ref p),some (.int (Fam.ofN (fs.take i):Nat)),v]/\H'=H) ⟨none,rfl,rfl⟩ (fun i σ H' _ ⟨v,_,e⟩=>e▸hq) ?_ ?_⟩
 . rintro i x σ H' hx ⟨v,rfl,rfl⟩
   obtain ⟨a,ha,rfl⟩:=qrh hx
   have h8:=hb a (ydk ha)
   walk_at "rd"
   refine ⟨qkw (by omega) (by omega) (by decide) (by decide),?_⟩
   rw [qlG ha,qjd,<-qqS,qla]
 . rintro σ H' ⟨v,rfl,rfl⟩
   rw [qeq,ycb]
   exact ⟨_,rfl,q⟩
abbrev qc5:Stmt:=top 33
theorem qhn:qal ["text", "sign"] ["text", "sign"] (qab qc5):=fsc
def qdH (cX:Addr):Sp:=qnX fun x y H Q E=>(∃z s:Str,x = .str z/\y = .str s/\(s.length==0)=false/\z.length<=10000/\∀p H',H p=none->qas H H'->H' p=some (.lst (sV (_root_.PySem.Txt.split z s)))->Q (.ref p) H')\/∃t,qdZ H x=some t/\t ≠ "str" /\ E (.ref cX) none H
theorem qkX {f:Addr} {fd:FuncData} (F:Fun K "parted" "parted" qc5 f fd) (T:Txt mg) {cD aW cX cN cF cH cO cM:Addr} (Z:Xt P w K mg cD aW cX cN cF cH cO cM)  : qaM P w K mg base (CX1 P w) 1 f fd ["text", "sign"] (qdH cX):=by
 have sc:=qhn
 refine F.okX qhn (fun vs H Q E h=>by obtain ⟨_,_,rfl,_⟩:=h;rfl) (fun cdv A outer s H vs Q E hr h=>?_)
 obtain ⟨x0,x1,rfl,h⟩:=h
 refine ⟨_,(qac (qaA (qdy (qcg (qau qci (by rfl) T.n_isinstance PyProof.Rows.boot_isinstance (qaa (pv 0) (qaa (qd3 (v := .ty "str") (by rfl) T.n_str PyProof.Rows.boot_str rfl) qad))))) (qag (qbe (by rfl) Z.gX Z.xX ygr rfl qaU qaf)) qam)
   (qag (qao (qb3 ygm ygs ygt qgu (pv 0) (qaa (pv 1) qad))))),?_⟩
 refine rdg (σ':=[some x0,some x1]) rfl ?_
 rcases h with ⟨z,s,rfl,rfl,hs,hz,q⟩ | ⟨t,hk,hne,q⟩
 . walk_at "rd"
   refine ⟨_,_,⟨rfl,rfl⟩, "str",rfl,by decide,?_⟩
   rw [if_neg (by decide)]
   exact ⟨rfl,z,s,rfl,rfl,hs,by omega,fun l hl=>q l _ hl (qas.new hl) qai⟩
 . walk_at "rd"
   refine ⟨_, "str",⟨rfl,rfl⟩,t,hk,by decide,?_⟩
   rw [qmq hne,if_pos rfl]
   exact q
abbrev qct:Stmt:=top 32
theorem qf2:qal ["text"] ["text"] (qab qct):=fsc
def qeM:Sp:=sp1 fun x H Q=>∃z:Str,x = .str z/\As z/\z.length<=1000/\∀H',qas H H'->Q (.bl (wdB z)) H'
theorem qj3 {f:Addr} {fd:FuncData} (F:Fun K "is_word" "is_word" qct f fd) (T:Txt mg)  : qaM P w K mg base CX0 1 f fd ["text"] qeM:=by
 have sc:=qf2
 refine F.ok qf2 (fun vs H Q E h=>by obtain ⟨_,rfl,_⟩:=h;rfl) (fun cdv A outer s H vs Q E hr h=>?_)
 obtain ⟨x0,rfl,h⟩:=h
 refine ⟨_,(qag (qao (qjp (qgz qn7 qn7 qah (qau qhb (by rfl) T.n_len PySem.boot_len (qaa (pv 0) qad)) (qdX T.c_MOST_LETTERS (by rfl))) (qjw (qau (qn6 (K:=K) rfl rfl) (by rfl) T.n_all PyProof.Rows.boot_all (qaa (qcr (N:=["sign"]) (nt:=1) (caps:=[]) qbt rfl (qqP (pv 0)) (fun _ _ _ _ _=>(qaF (i:=0) (show List.Nodup (α:=Str) ["sign"] from by decide +kernel) rfl (Or.inl rfl))) qbH (fun _ _ _ _ _=>qb0) (fun _ _ _ _ _=>(qgz qhj qhj qaf (pv 0) qaf))) qad)))))),?_⟩
 refine rdg (σ':=[some x0]) rfl ?_
 obtain ⟨z,rfl,ha,hz,q⟩:=h
 walk_at "rd"
 have e24:sizeLine=16777216:=sizeLine_eq
 refine ⟨by omega,?_⟩
 by_cases h1:1<=z.length
 rotate_left
 . rw [if_neg (by omega)]
   have e:wdB z=false:=by
     unfold wdB
     rw [decide_eq_false h1]
     rfl
   rw [e] at q
   exact q _ (qas.refl _)
 rw [if_pos (by omega)]
 by_cases h8:z.length<=8
 rotate_left
 . rw [if_neg (by omega)]
   have e:wdB z=false:=by
     unfold wdB
     rw [decide_eq_false h8,Bool.and_false]
     rfl
   rw [e] at q
   exact q _ (qas.refl _)
 rw [if_pos (by omega)]
 have hA:z.cps.all (· < 128)=true:=by
   rw [<-Array.all_toList,ybf]
   intro c hc
   exact decide_eq_true (ha c hc)
 refine ⟨hA,qry (fun _=>true) (fun x => .bl (decide (97<=x)&&decide (x<=122))) (by omega) (fun x hx H1 s1 R R' r1 r2=>?_) fun H1 p s1 hp=>?_⟩
 . (try walk_at "rd")
   have b1:=qtj x
   have b2:(!decide (("z" : Str).cps.toList < [x]))=decide (x<=122):=qsQ x
   cases h97:decide (97<=x) with
   | true =>
     rw [h97] at b1
     refine ⟨true,by simpa using b1,qha ?_⟩
     rw [b2]
     have:=r1 rfl H1 (qas.refl _)
     rw [h97,yez] at this
     exact this
   | false =>
     rw [h97] at b1
     refine ⟨false,by simpa using b1,qfy ?_⟩
     have:=r1 rfl H1 (qas.refl _)
     rw [h97,ydv] at this
     exact this
 . refine ⟨p,(sgs z).map fun x=>decide (97<=x)&&decide (x<=122),rfl,SqL.of ?_,?_⟩
   . rw [qai,ygp.mpr fun _ _=>rfl,ydg]
     rfl
   . have e:wdB z=((sgs z).map fun x=>decide (97<=x)&&decide (x<=122)).all id:=by
       unfold wdB
       rw [decide_eq_true h1,decide_eq_true h8,List.all_map]
       rfl
     rw [<-e]
     exact q _ (s1.trans (qas.new hp))
abbrev qbv:Stmt:=top 26
theorem qdE:qal ["text", "words", "word"] ["text"] (qab qbv):=fsc
def qdt (K:W.Frag) (cX:Addr):Sp:=qtu fun x H Q E=>(∃z:Str,x = .str z/\As z/\z.length<=900/\(∀ws,rN z=some ws->∀p H',H p=none->qas H H'->H' p=some (.lst (sV ws))->Q (.ref p) H')/\(rN z=none->∀H',qas H H'->E (.ref cX) none H'))\/∃t,qdZ H x=some t/\t ≠ "str" /\ E (.ref cX) none H
theorem qgC {f:Addr} {fd:FuncData} (F:Fun K "read_names" "read_names" qbv f fd) (T:Txt mg) {cD aW cX cN cF cH cO cM:Addr} (Z:Xt P w K mg cD aW cX cN cF cH cO cM) {f_59:Addr} {fd_59:FuncData} (C_59:qeu P w K mg base "parted" 1 ["text", "sign"] (qdH cX) f_59 fd_59) {f_54:Addr} {fd_54:FuncData} (C_54:Cal P w K mg base "is_word" 1 ["text"] qeM f_54 fd_54):qaM P w K mg base (CX1 P w) 2 f fd ["text"] (qdt K cX):=by
 have sc:=qdE
 refine F.okX qdE (fun vs H Q E h=>by obtain ⟨_,rfl,_⟩:=h;rfl) (fun cdv A outer s H vs Q E hr h=>?_)
 obtain ⟨x0,rfl,h⟩:=h
 refine ⟨_,(qac (qax (i:=1) sc.nd rfl (Or.inl rfl) (qbI C_59 hr (by decide) (by rfl) qbF (qaa (pv 0) (qaa qaf qad))))
   (qac (qaA (qap (qaz (K:=K) rfl hr.units0) (pv 1) (qaw (qaa qaf qad)) (qat _)) (qag (qao (qaw qad))) qam)
   (qac (qaA (PW.pt (ql3 (qap qjP (qau (qaV (K:=K) rfl) (by rfl) T.n_len PySem.boot_len (qaa (pv 1) qad)) (qdX T.c_MOST_NAMES (by rfl)) (qat _)) (qhv (qap qm2 (qau (qmh (P:=P) (w:=w) rfl rfl) (by rfl) T.n_len PySem.boot_len (qaa (qdF (qlq (P:=P) (w:=w) (K:=K) rfl rfl rfl rfl) (by rfl) T.n_set PyProof.Rows.boot_set (qaa (pv 1) qad)) qad)) (qau (qaV (K:=K) rfl) (by rfl) T.n_len PySem.boot_len (qaa (pv 1) qad)) (qat _))))) (qag (qbe (by rfl) Z.gX Z.xX ygr rfl qaU qaf)) qam)
   (qac (qdT PassesOwn.leaving rfl (qb1 (pv 1)) (qaF (i:=2) sc.nd rfl (Or.inl rfl)) (qag (qaA (PW.pt (ql3 (qdy (qcg (pec C_54 hr (qaa (pv 2) qad)))) (qhv (qap (qaz (K:=K) rfl hr.units0) (pv 2) (qcZ T.c_NO_SETS (by rfl)) (qat _))))) (qag (qbe (by rfl) Z.gX Z.xX ygr rfl qaU qaf)) qam)))
   (qag (qao (pv 1))))))),?_⟩
 refine rdg (σ':=[some x0,none,none]) rfl ?_
 rcases h with ⟨z,rfl,ha,hz,q1,q2⟩ | ⟨t,hk,hne,q⟩
 rotate_left
 . walk_at "rd"
   exact ⟨_,_,rfl,.inr ⟨t,hk,hne,q⟩⟩
 walk_at "rd"
 have pa:=qkt ha 32
 have pl:=Tx.part_len z 32
 have sl:=Tx.split_len z 32
 rw [<-Tx.lit_space] at pa pl sl
 refine ⟨_,_,rfl,.inl ⟨_,_,rfl,rfl,by rw [Tx.lit_space];rfl,by omega,fun p1 G1 hp1 s1 a1=>?_⟩⟩
 have eN:∀o,(if _root_.PySem.Txt.split z " " = [("" : Str)] then some [] else
   if ((_root_.PySem.Txt.split z " ").all fun w=>wdB w&&!decide (w=("none" : Str)))=true/\(_root_.PySem.Txt.split z " ").length<=8/\cnt (_root_.PySem.Txt.split z " ")=(_root_.PySem.Txt.split z " ").length then some (_root_.PySem.Txt.split z " ") else none)=o->rN z=o:=fun o h=>h
 generalize _root_.PySem.Txt.split z " " = ws at a1 pa pl sl eN
 (try walk_at "rd")
 refine ⟨qaH (by simp),fun p2 hp2=>?_⟩
 generalize g2:upd G1 p2 _=G2
 have a2:G2 p2=some (.lst (sV [("" : Str)])):=qaJ g2
 have s2:=qav g2 hp2
 have s12:=s1.trans s2
 have a1':=s2 _ _ a1
 refine qkE (SqL.of a1') (SqL.of a2) (qdK _) (qdK _) ?_
 rw [qjk]
 by_cases h0:ws=[("" : Str)]
 . refine ⟨true,by simpa using h0,qha ⟨qaH (by simp),fun p3 hp3=>?_⟩⟩
   exact q1 [] (eN _ (if_pos h0)) _ _ (qaQ s12 hp3) (s12.trans (qas.new hp3)) qai
 refine ⟨false,by simpa using h0,qfy ?_⟩
 have eN:∀o,(if (ws.all fun w=>wdB w&&!decide (w=("none" : Str)))=true/\ws.length<=8/\cnt ws=ws.length then some ws else none)=o->rN z=o:=fun o h=>eN o (by rw [if_neg h0];exact h)
 refine ⟨_,.inl (SqL.of a1'),?_⟩
 rw [qaK]
 by_cases h8:ws.length<=8
 rotate_left
 . rw [if_pos (by omega)]
   exact q2 (eN _ (if_neg fun y=>h8 y.2.1)) _ s12
 rw [if_neg (by omega)]
 refine ⟨p1,ws,rfl,SqL.of a1',by omega,fun p3 hp3=>?_⟩
 generalize g3:upd G2 p3 _=G3
 have a3:=qaJ g3
 have s3:=qav g3 hp3
 have a1'':=s3 _ _ a1'
 have s13:=s12.trans s3
 have cl:=qqz ws
 refine ⟨p3,_,rfl,a3,by omega,?_⟩
 refine ⟨_,.inl (SqL.of a1''),?_⟩
 (try walk_at "rd")
 rw [qaK]
 by_cases hc:cnt ws=ws.length
 rotate_left
 . rw [if_pos (by omega)]
   exact q2 (eN _ (if_neg fun y=>hc y.2.2)) _ s13
 rw [if_neg (by omega)]
 refine ⟨⟨_,SqL.of a1''⟩,qhl (xs:=sV ws) (fun i σ H'=>∃v,σ=[some (.str z),some (.ref p1),v]/\qas G3 H'/\((ws.take i).all fun w=>wdB w&&!decide (w=("none" : Str)))=true) ⟨none,rfl,qas.refl _,rfl⟩ (fun i σ H' _ ⟨_,_,e,_⟩=>SqL.of (e _ _ a1'')) ?_ ?_⟩
 . rintro i x σ H4 hx ⟨v,rfl,s4,h4⟩ N hN
   rw [ydf] at hx
   cases eb:ws[i]? with
   | none=>rw [eb] at hx;cases hx
   | some w =>
     rw [eb] at hx
     cases hx
     have mw:=ydk eb
     have no:(wdB w&&!decide (w=("none" : Str)))=false->rN z=none:=fun h=>eN _ (if_neg fun y=>by
       have:=ybf.mp y.1 w mw
       rw [h] at this
       cases this)
     (try walk_at "rd")
     refine ⟨_,rfl,w,rfl,pa w mw,by have:=pl w mw;omega,fun H5 s5=>⟨_,rfl,?_⟩⟩
     cases hb:wdB w with
     | false =>
       rw [if_pos rfl]
       exact q2 (no (by rw [hb];rfl)) _ ((s13.trans s4).trans s5)
     | true =>
       rw [if_neg (by decide)]
       by_cases nn:w=("none" : Str)
       . rw [if_pos nn]
         exact q2 (no (by rw [decide_eq_true nn];simp)) _ ((s13.trans s4).trans s5)
       . rw [if_neg nn]
         refine hN _ _ ⟨_,rfl,s4.trans s5,?_⟩
         rw [yfj,eb,List.all_append,h4]
         simp [hb,nn]
 . rintro σ H4 ⟨v,rfl,s4,h4⟩
   rw [qaK,ycb] at h4
   (try walk_at "rd")
   exact q1 ws (eN _ (if_pos ⟨h4,h8,hc⟩)) p1 _ hp1 (s13.trans s4) (s4 _ _ a1'')
abbrev qbR:Stmt:=top 31
theorem qel:qal ["words", "word"] ["words", "word"] (qab qbR):=fsc
def qc7 (K:W.Frag) (cX:Addr):Sp:=qnX fun x y H Q E=>∃(p:Addr) (ws:List Str) (w:Str),x = .ref p/\H p=some (.lst (sV ws))/\ws.length<=8/\y = .str w/\(w∈ws->Q (.int (ws.idxOf w:Nat)) H)/\(w∉ws->E (.ref cX) none H)
theorem qhE {f:Addr} {fd:FuncData} (F:Fun K "read_name" "read_name" qbR f fd) (T:Txt mg) {cD aW cX cN cF cH cO cM:Addr} (Z:Xt P w K mg cD aW cX cN cF cH cO cM)  : qaM P w K mg base (CX1 P w) 1 f fd ["words", "word"] (qc7 K cX):=by
 have sc:=qel
 refine F.okX qel (fun vs H Q E h=>by obtain ⟨_,_,rfl,_⟩:=h;rfl) (fun cdv A outer s H vs Q E hr h=>?_)
 obtain ⟨x0,x1,rfl,h⟩:=h
 refine ⟨_,(qac (qaA (qap (qk7 (K:=K) rfl) (pv 1) (pv 0) (by with_unfolding_all rfl)) (qag (qbe (by rfl) Z.gX Z.xX ygr rfl qaU qaf)) qam)
   (qag (qao (qsq (K:=K) rfl ygj yfi PySem.F.type_list_index qlT (pv 0) (qaa (pv 1) qad))))),?_⟩
 refine rdg (σ':=[some x0,some x1]) rfl ?_
 obtain ⟨p,ws,w,rfl,f1,hl,rfl,q1,q2⟩:=h
 walk_at "rd"
 by_cases hw:w∈ws
 . refine ⟨_,.inl (SqL.of f1),rfl,qdK _,false,by rw [qrc];simpa using hw,?_⟩
   rw [if_neg (by decide)]
   exact ⟨.inl ⟨rfl,_,SqL.of f1⟩,p,ws,w,rfl,rfl,f1,hw,by omega,q1 hw⟩
 . refine ⟨_,.inl (SqL.of f1),rfl,qdK _,true,by rw [qrc];simpa using hw,?_⟩
   rw [if_pos rfl]
   exact q2 hw
abbrev qca:Stmt:=top 27
theorem qfm:qal ["words", "one"] ["words", "one"] (qab qca):=fsc
def qe6 (K:W.Frag):Sp:=sp2 fun x y H Q=>∃(p:Addr) (ws:List Str) (a:Nat),x = .ref p/\H p=some (.lst (sV ws))/\Tx.Wds ws/\y = .int (a:Nat)/\a<2^ws.length/\∀H',qas H H'->Q (.str (Tx.sT ws a)) H'
theorem qif {f:Addr} {fd:FuncData} (F:Fun K "show_set" "show_set" qca f fd) (T:Txt mg) {f_45:Addr} {fd_45:FuncData} (C_45:Cal P w K mg base "names_in" 1 ["one"] qfz f_45 fd_45):qaM P w K mg base CX0 2 f fd ["words", "one"] (qe6 K):=by
 have sc:=qfm
 refine F.ok qfm (fun vs H Q E h=>by obtain ⟨_,_,rfl,_⟩:=h;rfl) (fun cdv A outer s H vs Q E hr h=>?_)
 obtain ⟨x0,x1,rfl,h⟩:=h
 refine ⟨_,(qac (qaA (qap (qaz (K:=K) rfl hr.units0) (pv 1) qah (qat _)) (qag (qao (qcZ T.c_NO_NAMES (by rfl)))) qam)
   (qag (qao (qb3 ygm ygn ygo (qcD (K:=K) rfl) qaf (qaa (qcr (N:=["k", "words"]) (nt:=1) (caps:=[0]) qbt rfl (qb1 (pec C_45 hr (qaa (pv 1) qad))) (fun _ _ _ _ _=>(qaF (i:=0) (show List.Nodup (α:=Str) ["k", "words"] from by decide +kernel) rfl (Or.inl rfl))) qbH (fun _ _ _ _ _=>qb0) (fun _ _ _ _ _=>(qaR (qcl (K:=K) rfl) (pv 1) (pv 0) (fun _ _=>rfl)))) qad))))),?_⟩
 refine rdg (σ':=[some x0,some x1]) rfl ?_
 obtain ⟨p,ws,a,rfl,f1,hw,rfl,ha,q⟩:=h
 walk_at "rd"
 by_cases h0:a=0
 . rw [if_pos (by omega)]
   rw [show Tx.sT ws a = "-" from if_pos h0] at q
   exact q _ (qas.refl _)
 rw [if_neg (by omega)]
 rw [show Tx.sT ws a=Txt.join "+" (Tx.wds ws a) from if_neg h0] at q
 refine ⟨rfl,_,rfl,a,rfl,Tx.lt256 hw ha,fun H1 p1 s1 hp1=>?_⟩
 generalize g1:upd H1 p1 _=G1
 have a1:=qaJ g1
 have s1:=s1.trans (qav g1 hp1)
 have l8:(Fam.nms 8 a).length<=8:=ybt (yff _ _) (by simp)
 refine ⟨p1,rfl,⟨_,SqL.of a1⟩,qlY (fs:=Fam.nms 8 a) (fun _=>true) (fun k => .str (ws.getD k Str.empty)) (SqL.of a1) (by omega) (fun k hk H2 s2 R R' r1 r2=>?_) fun H2 p2 s2 hp2=>?_⟩
 . (try walk_at "rd")
   have hl:=Tx.nms_lt ha hk
   exact qbg (SqL.of (s2 _ _ (s1 _ _ f1))) (qcv (w:=ws.getD k Str.empty) (by rw [yey,ydc hl];rfl)) (r1 rfl _ (qas.refl _))
 . rw [ygp.mpr fun _ _=>rfl]
   have ew:(Fam.nms 8 a).map (fun k=>V.str (ws.getD k Str.empty))=sV (Tx.wds ws a):=by
     show _=List.map V.str (List.map _ _)
     rw [ydg]
     rfl
   rw [ew]
   refine ⟨_,p2,Tx.wds ws a,rfl,rfl,SqL.of qai,qbX (M:=8) (N:=8) (fun y hy=>(hw.wd y (Tx.wds_mem hw ha hy)).2.1) (by unfold Tx.wds;rw [ycj];exact l8) (by rw [Tx.lit_plus];decide) (by decide),q _ ((s1.trans s2).trans (qas.new hp2))⟩
abbrev qbk:Stmt:=top 28
theorem qdi:qal ["words", "family"] ["words", "family"] (qab qbk):=fsc
def qfA (K:W.Frag):Sp:=sp2 fun x y H Q=>∃(p p2:Addr) (ws:List Str) (fs:List Nat),x = .ref p/\H p=some (.lst (sV ws))/\Tx.Wds ws/\y = .ref p2/\H p2=some (.lst (nV fs))/\(∀b∈fs,b<2^ws.length)/\fs.length<=70/\∀H',qas H H'->Q (.str (Tx.fT ws fs)) H'
theorem qfU {f:Addr} {fd:FuncData} (F:Fun K "show_family" "show_family" qbk f fd) (T:Txt mg) {f_46:Addr} {fd_46:FuncData} (C_46:Cal P w K mg base "show_set" 2 ["words", "one"] (qe6 K) f_46 fd_46):qaM P w K mg base CX0 3 f fd ["words", "family"] (qfA K):=by
 have sc:=qdi
 refine F.ok qdi (fun vs H Q E h=>by obtain ⟨_,_,rfl,_⟩:=h;rfl) (fun cdv A outer s H vs Q E hr h=>?_)
 obtain ⟨x0,x1,rfl,h⟩:=h
 refine ⟨_,(qac (qaA (qap (qaz (K:=K) rfl hr.units0) (qau (qaV (K:=K) rfl) (by rfl) T.n_len PySem.boot_len (qaa (pv 1) qad)) qah (qat _)) (qag (qao (qcZ T.c_NO_SETS (by rfl)))) qam)
   (qag (qao (qb3 ygm ygn ygo (qcD (K:=K) rfl) qaf (qaa (qcr (N:=["one", "words"]) (nt:=1) (caps:=[0]) qbt rfl (qb1 (pv 1)) (fun _ _ _ _ _=>(qaF (i:=0) (show List.Nodup (α:=Str) ["one", "words"] from by decide +kernel) rfl (Or.inl rfl))) qbH (fun _ _ _ _ _=>qb0) (fun _ _ _ _ _=>(pec C_46 hr (qaa (pv 1) (qaa (pv 0) qad))))) qad))))),?_⟩
 refine rdg (σ':=[some x0,some x1]) rfl ?_
 obtain ⟨p,p2,ws,fs,rfl,f1,hw,rfl,f2,hb,hl,q⟩:=h
 walk_at "rd"
 refine ⟨_,.inl (SqL.of f2),?_⟩
 rw [qeq]
 by_cases h0:fs=[]
 . rw [if_pos (by rw [h0];rfl)]
   rw [show Tx.fT ws fs = "none" from if_pos h0] at q
   exact q _ (qas.refl _)
 have hn:0<fs.length:=ygf.mpr h0
 rw [if_neg (by omega)]
 rw [show Tx.fT ws fs=Txt.join " " (fs.map (Tx.sT ws)) from if_neg h0] at q
 refine ⟨rfl,⟨_,SqL.of f2⟩,qlY (fs:=fs) (fun _=>true) (fun b => .str (Tx.sT ws b)) (SqL.of f2) (by omega) (fun b hb' H2 s2 R R' r1 r2=>?_) fun H2 p3 s2 hp3=>?_⟩
 . (try walk_at "rd")
   exact ⟨_,_,rfl,p,ws,b,rfl,s2 _ _ f1,hw,rfl,hb b hb',fun H3 s3=>r1 rfl _ s3⟩
 . rw [ygp.mpr fun _ _=>rfl]
   have ew:fs.map (fun b=>V.str (Tx.sT ws b))=sV (fs.map (Tx.sT ws)):=by
     show _=List.map V.str (List.map _ _)
     rw [ydg]
     rfl
   rw [ew]
   refine ⟨_,p3,fs.map (Tx.sT ws),rfl,rfl,SqL.of qai,qbX (M:=72) (N:=70) (fun y hy=>?_) (by rw [ycj];exact hl) (by rw [Tx.lit_space];decide) (by decide),q _ (s2.trans (qas.new hp3))⟩
   obtain ⟨b,hb',rfl⟩:=ybn.mp hy
   exact Tx.sT_len hw (hb b hb')
abbrev qcd:Stmt:=top 29
theorem qe4:qal ["words", "text", "parts", "names"] ["words", "text"] (qab qcd):=fsc
def qdw (K:W.Frag) (cX:Addr):Sp:=qnX fun x y H Q E=>∃(p:Addr) (ws:List Str) (z:Str),x = .ref p/\H p=some (.lst (sV ws))/\Tx.Wds ws/\y = .str z/\z.length<=10000/\(_root_.PySem.Txt.split z "+").length<=1000/\(∀a,Tx.rS ws z=some a->∀H',qas H H'->Q (.int (a:Nat)) H')/\(Tx.rS ws z=none->∀H',qas H H'->E (.ref cX) none H')
theorem qih {f:Addr} {fd:FuncData} (F:Fun K "read_set" "read_set" qcd f fd) (T:Txt mg) {cD aW cX cN cF cH cO cM:Addr} (Z:Xt P w K mg cD aW cX cN cF cH cO cM) {f_59:Addr} {fd_59:FuncData} (C_59:qeu P w K mg base "parted" 1 ["text", "sign"] (qdH cX) f_59 fd_59) {f_58:Addr} {fd_58:FuncData} (C_58:Cal P w K mg base "set_of" 1 ["names"] (qiY K) f_58 fd_58) {f_37:Addr} {fd_37:FuncData} (C_37:qeu P w K mg base "read_name" 1 ["words", "word"] (qc7 K cX) f_37 fd_37):qaM P w K mg base (CX1 P w) 2 f fd ["words", "text"] (qdw K cX):=by
 have sc:=qe4
 refine F.okX qe4 (fun vs H Q E h=>by obtain ⟨_,_,rfl,_⟩:=h;rfl) (fun cdv A outer s H vs Q E hr h=>?_)
 obtain ⟨x0,x1,rfl,h⟩:=h
 refine ⟨_,(qac (qax (i:=2) sc.nd rfl (Or.inl rfl) (qbI C_59 hr (by decide) (by rfl) qbF (qaa (pv 1) (qaa qaf qad))))
   (qac (qaA (qap (qaz (K:=K) rfl hr.units0) (pv 2) (qaw (qaa (qcZ T.c_NO_NAMES (by rfl)) qad)) (qat _)) (qag (qao qah)) qam)
   (qac (qgZ (i:=3) sc.nd rfl rfl (by rfl) (N:=["word", "words"]) (nt:=1) (caps:=[0]) qbt rfl (qb1 (pv 2)) (fun _ _ _ _ _=>(qaF (i:=0) (show List.Nodup (α:=Str) ["word", "words"] from by decide +kernel) rfl (Or.inl rfl))) qbH (fun _ _ _ _ _=>qb0) (fun _ _ _ _ _ _ _ tk=>(qbI C_37 hr (by decide) (by rfl) tk.passes (qaa (pv 1) (qaa (pv 0) qad)))) qgv rfl rfl)
   (qac (qaA (qap (qgk (K:=K) rfl hr.units0) (pv 3) (qau (qf6 (P:=P) (w:=w) (K:=K) rfl rfl rfl rfl) (by rfl) T.n_sorted PyProof.Rows.boot_sorted (qaa (qdF (qhp (P:=P) (w:=w) (K:=K) rfl rfl rfl rfl) (by rfl) T.n_set PyProof.Rows.boot_set (qaa (pv 3) qad)) qad)) (qat _)) (qag (qbe (by rfl) Z.gX Z.xX ygr rfl qaU qaf)) qam)
   (qag (qao (pec C_58 hr (qaa (pv 3) qad)))))))),?_⟩
 refine rdg (σ':=[some x0,some x1,none,none]) rfl ?_
 obtain ⟨p,ws,z,rfl,f1,hw,rfl,hz,hn,q1,q2⟩:=h
 walk_at "rd"
 refine ⟨_,_,rfl,.inl ⟨_,_,rfl,rfl,by rw [Tx.lit_plus];rfl,hz,fun p1 G1 hp1 s1 a1=>?_⟩⟩
 generalize eP:_root_.PySem.Txt.split z "+" = P at a1 hn
 (try walk_at "rd")
 refine ⟨qaH (by simp),fun p2 hp2=>?_⟩
 generalize g2:upd G1 p2 _=G2
 have a2:G2 p2=some (.lst (sV [("-" : Str)])):=qaJ g2
 have s2:=qav g2 hp2
 have a1:=s2 _ _ a1
 have s12:=s1.trans s2
 refine qkE (SqL.of a1) (SqL.of a2) (qdK _) (qdK _) ?_
 rw [qjk]
 by_cases h0:P=[("-" : Str)]
 . refine ⟨true,by simpa using h0,qha ?_⟩
   exact q1 0 (by unfold Tx.rS;rw [eP,if_pos h0]) _ s12
 refine ⟨false,by simpa using h0,qfy ?_⟩
 have lz:(sV P).length=P.length:=qaK _
 refine ⟨⟨_,SqL.of a1⟩,qkC (xs:=sV P) (fun i ys H3=>qas G2 H3/\ys=nV ((P.take i).map fun w=>ws.idxOf w)/\∀w∈P.take i,w∈ws) ⟨qas.refl _,rfl,fun w hw=>(by cases hw)⟩ (by rw [lz];exact qaH (by omega)) (fun i ys H3 hi ⟨s,e,_⟩=>⟨SqL.of (s _ _ a1),by rw [e,qeq,ycj,yee];omega⟩) (fun i x ys H3 hx ⟨s3,e3,m3⟩ R R' r1 r2=>?_) fun ys H3 ⟨s3,e3,m3⟩ p3 hp3=>?_⟩
 . rw [ydf] at hx
   cases eb:P[i]? with
   | none=>rw [eb] at hx;cases hx
   | some w =>
     rw [eb] at hx
     cases hx
     have mw:=ydk eb
     (try walk_at "rd")
     refine ⟨_,_,rfl,p,ws,w,rfl,s3 _ _ (s12 _ _ f1),hw.few,rfl,fun hm=>r1 _ _ ⟨s3,?_,?_⟩,fun hm=>q2 ?_ _ (s12.trans s3)⟩
     . rw [e3,yfj,eb]
       simp [nV,nI]
     . rw [yfj,eb]
       intro w' hw'
       rcases yat.mp hw' with x | x
       . exact m3 w' x
       . have e:w'=w:=by simpa using x
         rw [e]
         exact hm
     . unfold Tx.rS
       rw [eP,if_neg h0,if_neg fun y=>hm (y.1 w mw)]
 rw [lz,ycb] at e3 m3
 subst e3
 generalize g3:upd H3 p3 _=G3
 have a3:=qaJ g3
 have s3':=(s12.trans s3).trans (qav g3 hp3)
 refine ⟨p3,_,rfl,SqL.of a3,by rw [nI,ycj,ycj];omega,fun p4 hp4=>?_⟩
 generalize g4:upd G3 p4 _=G4
 have a4:=qaJ g4
 have a3:=qav g4 hp4 _ _ a3
 have s4:=s3'.trans (qav g4 hp4)
 refine ⟨p4,_,rfl,.inr a4,qkY hw.few m3 (by decide),fun p5 ms hp5 m1 m2=>?_⟩
 rw [qe3 m1 m2]
 generalize g5:upd G4 p5 _=G5
 have a5:=qaJ g5
 have a3:=qav g5 hp5 _ _ a3
 have s5:=s4.trans (qav g5 hp5)
 refine qtp (SqL.of a3) (SqL.of a5) (qlI _) (qlI _) ?_
 rw [qoy]
 by_cases hr:(P.map fun w=>ws.idxOf w).Pairwise (· < ·)
 . rw [qpw hr] at a5 ⊢
   refine ⟨false,by simp,qfy ?_⟩
   refine ⟨_,rfl,p3,_,rfl,SqL.of a3,fun k hk=>?_,?_⟩
   . obtain ⟨w,hw',rfl⟩:=ybn.mp hk
     have:=yfs (m3 w hw')
     have:=hw.few
     omega
   exact q1 _ (by unfold Tx.rS;rw [eP,if_neg h0,if_pos ⟨m3,hr⟩]) _ s5
 . have ne:(P.map fun w=>ws.idxOf w)≠sd (P.map fun w=>ws.idxOf w):=fun e=>hr (by rw [e];exact qii _)
   refine ⟨true,by rw [decide_eq_false ne];rfl,qha ?_⟩
   exact q2 (by unfold Tx.rS;rw [eP,if_neg h0,if_neg (fun z=>hr z.2)]) _ s5
abbrev qbm:Stmt:=top 30
theorem qdg:qal ["words", "text", "parts", "family"] ["words", "text"] (qab qbm):=fsc
theorem qgt {m:Nat}:∀(fs:List Nat) (b:Int),ql9 m b (nV fs)=true↔(∀x∈fs,b<(x:Int))/\fs.Pairwise (· < ·)/\∀x∈fs,x<2^m
 | [],b=>⟨fun _=>⟨fun x hx=>(by cases hx),List.Pairwise.nil,fun x hx=>(by cases hx)⟩,fun _=>rfl⟩
 | x::r,b=>by
   have ih:=qgt (m:=m) r (x:Int)
   show (decide (0<=(x:Int))&&decide ((x:Int)<(2^m:Nat))&&decide (b<(x:Int))&&ql9 m (x:Int) (nV r))=true↔_
   rw [yab,yab,yab,decide_eq_true_eq,decide_eq_true_eq,decide_eq_true_eq,ih]
   constructor
   . rintro ⟨⟨⟨_,h1⟩,h2⟩,h3,h4,h5⟩
     refine ⟨fun y hy=>?_,ybc.mpr ⟨fun y hy=>?_,h4⟩,fun y hy=>?_⟩
     . rcases ybd.mp hy with rfl | z
       . exact h2
       . have:=h3 y z
         omega
     . have:=h3 y hy
       omega
     . rcases ybd.mp hy with rfl | z
       . omega
       . exact h5 y z
   . rintro ⟨h1,h2,h3⟩
     have h4:=ybc.mp h2
     have h5:=h3 x ybb
     exact ⟨⟨⟨by omega,by omega⟩,h1 x ybb⟩,fun y hy=>by have:=h4.1 y hy;omega,h4.2,fun y hy=>h3 y (ybe _ hy)⟩
def qfe (K:W.Frag) (cX:Addr):Sp:=qnX fun x y H Q E=>∃(p:Addr) (ws:List Str) (z:Str),x = .ref p/\H p=some (.lst (sV ws))/\Tx.Wds ws/\y = .str z/\z.length<=10000/\(_root_.PySem.Txt.split z " ").length<=1000/\(∀q∈_root_.PySem.Txt.split z " ",(_root_.PySem.Txt.split q "+").length<=1000)/\(∀fs,Tx.rF ws z=some fs->∀p' H',H p'=none->qas H H'->H' p'=some (.lst (nV fs))->Q (.ref p') H')/\(Tx.rF ws z=none->∀H',qas H H'->E (.ref cX) none H')
theorem qfQ {f:Addr} {fd:FuncData} (F:Fun K "read_family" "read_family" qbm f fd) (T:Txt mg) {cD aW cX cN cF cH cO cM:Addr} (Z:Xt P w K mg cD aW cX cN cF cH cO cM) {f_59:Addr} {fd_59:FuncData} (C_59:qeu P w K mg base "parted" 1 ["text", "sign"] (qdH cX) f_59 fd_59) {f_47:Addr} {fd_47:FuncData} (C_47:qeu P w K mg base "read_set" 2 ["words", "text"] (qdw K cX) f_47 fd_47) {f_36:Addr} {fd_36:FuncData} (C_36:Cal P w K mg base "is_family" 3 ["many", "thing"] (qiN K) f_36 fd_36):qaM P w K mg base (CX1 P w) 4 f fd ["words", "text"] (qfe K cX):=by
 have sc:=qdg
 refine F.okX qdg (fun vs H Q E h=>by obtain ⟨_,_,rfl,_⟩:=h;rfl) (fun cdv A outer s H vs Q E hr h=>?_)
 obtain ⟨x0,x1,rfl,h⟩:=h
 refine ⟨_,(qac (qax (i:=2) sc.nd rfl (Or.inl rfl) (qbI C_59 hr (by decide) (by rfl) qbF (qaa (pv 1) (qaa qaf qad))))
   (qac (qaA (qap (qaz (K:=K) rfl hr.units0) (pv 2) (qaw (qaa (qcZ T.c_NO_SETS (by rfl)) qad)) (qat _)) (qag (qao (qaw qad))) qam)
   (qac (qgZ (i:=3) sc.nd rfl rfl (by rfl) (N:=["part", "words"]) (nt:=1) (caps:=[0]) qbt rfl (qb1 (pv 2)) (fun _ _ _ _ _=>(qaF (i:=0) (show List.Nodup (α:=Str) ["part", "words"] from by decide +kernel) rfl (Or.inl rfl))) qbH (fun _ _ _ _ _=>qb0) (fun _ _ _ _ _ _ _ tk=>(qbI C_47 hr (by decide) (by rfl) tk.passes (qaa (pv 1) (qaa (pv 0) qad)))) qgv rfl rfl)
   (qac (qaA (qdy (qcg (pec C_36 hr (qaa (qau (qaV (K:=K) rfl) (by rfl) T.n_len PySem.boot_len (qaa (pv 0) qad)) (qaa (pv 3) qad))))) (qag (qbe (by rfl) Z.gX Z.xX ygr rfl qaU qaf)) qam)
   (qag (qao (pv 3))))))),?_⟩
 refine rdg (σ':=[some x0,some x1,none,none]) rfl ?_
 obtain ⟨p,ws,z,rfl,f1,hw,rfl,hz,hn,hP,q1,q2⟩:=h
 walk_at "rd"
 have pl:=Tx.part_len z 32
 rw [<-Tx.lit_space] at pl
 refine ⟨_,_,rfl,.inl ⟨_,_,rfl,rfl,by rw [Tx.lit_space];rfl,hz,fun p1 G1 hp1 s1 a1=>?_⟩⟩
 generalize eP:_root_.PySem.Txt.split z " " = P at a1 hn hP pl
 (try walk_at "rd")
 refine ⟨qaH (by simp),fun p2 hp2=>?_⟩
 generalize g2:upd G1 p2 _=G2
 have a2:G2 p2=some (.lst (sV [("none" : Str)])):=qaJ g2
 have s2:=qav g2 hp2
 have a1:=s2 _ _ a1
 have s12:=s1.trans s2
 refine qkE (SqL.of a1) (SqL.of a2) (qdK _) (qdK _) ?_
 rw [qjk]
 by_cases h0:P=[("none" : Str)]
 . refine ⟨true,by simpa using h0,qha ⟨qaH (by simp),fun p3 hp3=>?_⟩⟩
   exact q1 [] (by unfold Tx.rF;rw [eP,if_pos h0]) _ _ (qaQ s12 hp3) (s12.trans (qas.new hp3)) qai
 refine ⟨false,by simpa using h0,qfy ?_⟩
 have lz:(sV P).length=P.length:=qaK _
 refine ⟨⟨_,SqL.of a1⟩,qkC (xs:=sV P) (fun i ys H3=>qas G2 H3/\ys=nV ((P.take i).map fun w=>(Tx.rS ws w).getD 0)/\∀w∈P.take i,(Tx.rS ws w).isSome=true) ⟨qas.refl _,rfl,fun w hw=>(by cases hw)⟩ (by rw [lz];exact qaH (by omega)) (fun i ys H3 hi ⟨s,e,_⟩=>⟨SqL.of (s _ _ a1),by rw [e,qeq,ycj,yee];omega⟩) (fun i x ys H3 hx ⟨s3,e3,m3⟩ R R' r1 r2=>?_) fun ys H3 ⟨s3,e3,m3⟩ p3 hp3=>?_⟩
 . rw [ydf] at hx
   cases eb:P[i]? with
   | none=>rw [eb] at hx;cases hx
   | some w =>
     rw [eb] at hx
     cases hx
     have mw:=ydk eb
     (try walk_at "rd")
     refine ⟨_,_,rfl,p,ws,w,rfl,s3 _ _ (s12 _ _ f1),hw,rfl,ybt (pl w mw) hz,hP w mw,fun a ha H4 s4=>r1 _ _ ⟨s3.trans s4,?_,?_⟩,fun hm H4 s4=>q2 ?_ _ ((s12.trans s3).trans s4)⟩
     . rw [e3,yfj,eb]
       simp [nV,nI,ha]
     . rw [yfj,eb]
       intro w' hw'
       rcases yat.mp hw' with x | x
       . exact m3 w' x
       . have e:w'=w:=by simpa using x
         rw [e,ha]
         rfl
     . unfold Tx.rF
       rw [eP,if_neg h0,if_neg fun y=>by have:=y.1 w mw;rw [hm] at this;cases this]
 rw [lz,ycb] at e3 m3
 subst e3
 generalize g3:upd H3 p3 _=G3
 have a3:=qaJ g3
 have t3:=qav g3 hp3
 have s3':=(s12.trans s3).trans t3
 have f1':=s3' _ _ f1
 (try walk_at "rd")
 refine ⟨_,.inl (SqL.of f1'),?_⟩
 rw [qaK]
 have lb:∀x∈P.map (fun w=>(Tx.rS ws w).getD 0),x<2^ws.length:=fun x hx=>by
   obtain ⟨w,hw',rfl⟩:=ybn.mp hx
   have:=m3 w hw'
   cases e:Tx.rS ws w with
   | none=>rw [e] at this;cases this
   | some a=>exact Tx.rS_lt hw e
 refine ⟨_,_,rfl,ws.length,rfl,hw.few,.inl ⟨p3,_,rfl,a3,by rw [qeq,ycj];exact hn,fun x hx=>?_,?_⟩⟩
 . obtain ⟨i,hi,rfl⟩:=ybn.mp hx
   exact ⟨"int",rfl⟩
 rw [qeq]
 by_cases hr:(P.map fun w=>(Tx.rS ws w).getD 0).length<=70/\(P.map fun w=>(Tx.rS ws w).getD 0).Pairwise (· < ·)
 . have e:ql9 ws.length (-1) (nV (P.map fun w=>(Tx.rS ws w).getD 0))=true:=(qgt _ _).mpr ⟨fun x _=>by omega,hr.2,lb⟩
   refine ⟨true,by rw [e,decide_eq_true hr.1];rfl,?_⟩
   rw [if_neg (by decide)]
   exact q1 _ (by unfold Tx.rF;rw [eP,if_neg h0,if_pos ⟨m3,hr⟩]) p3 _ (qaQ (s12.trans s3) hp3) s3' a3
 . have e:(decide ((P.map fun w=>(Tx.rS ws w).getD 0).length<=70)&&ql9 ws.length (-1) (nV (P.map fun w=>(Tx.rS ws w).getD 0)))=false:=by
     rw [yfr]
     intro y
     rw [yab,decide_eq_true_eq] at y
     exact hr ⟨y.1,((qgt _ _).mp y.2).2.1⟩
   refine ⟨false,by rw [e],?_⟩
   rw [if_pos rfl]
   exact q2 (by unfold Tx.rF;rw [eP,if_neg h0,if_neg (fun z=>hr z.2)]) _ s3'
abbrev qeb:Stmt:=top 13
theorem qnS:qal ["one", "other"] ["one", "other"] (qab qeb):=fsc
theorem qmO {f:Addr} {fd:FuncData} (F:Fun K "holds" "holds" qeb f fd) (T:Txt mg):qaM P w K mg base CX0 1 f fd ["one", "other"] qaP:=F.ok qnS (fun vs H Q E h=>absurd h id) (fun cdv A outer s H vs Q E hr h=>absurd h id)
abbrev qd5:Stmt:=top 14
theorem qmY:qal ["one", "other"] ["one", "other"] (qab qd5):=fsc
theorem qn9 {f:Addr} {fd:FuncData} (F:Fun K "meets" "meets" qd5 f fd) (T:Txt mg):qaM P w K mg base CX0 1 f fd ["one", "other"] qaP:=F.ok qmY (fun vs H Q E h=>absurd h id) (fun cdv A outer s H vs Q E hr h=>absurd h id)
abbrev qgj:Stmt:=top 15
theorem qqy:qal ["many", "one", "whole_ground"] ["many", "one"] (qab qgj):=fsc
theorem qqk {f:Addr} {fd:FuncData} (F:Fun K "rest" "rest" qgj f fd) (T:Txt mg):qaM P w K mg base CX0 1 f fd ["many", "one"] qaP:=F.ok qqy (fun vs H Q E h=>absurd h id) (fun cdv A outer s H vs Q E hr h=>absurd h id)
abbrev qgl:Stmt:=top 20
theorem qpX:qal ["family", "one", "other"] ["family", "one"] (qab qgl):=fsc
theorem qpN {f:Addr} {fd:FuncData} (F:Fun K "says" "says" qgl f fd) (T:Txt mg):qaM P w K mg base CX0 1 f fd ["family", "one"] qaP:=F.ok qpX (fun vs H Q E h=>absurd h id) (fun cdv A outer s H vs Q E hr h=>absurd h id)
abbrev qed:Stmt:=top 19
theorem qnw:qal ["some", "found", "one"] ["some"] (qab qed):=fsc
theorem qnx {f:Addr} {fd:FuncData} (F:Fun K "least" "least" qed f fd) (T:Txt mg):qaM P w K mg base CX0 1 f fd ["some"] qaP:=F.ok qnw (fun vs H Q E h=>absurd h id) (fun cdv A outer s H vs Q E hr h=>absurd h id)
abbrev qd6:Stmt:=top 21
theorem qnC:qal ["many", "family"] ["many", "family"] (qab qd6):=fsc
theorem qnQ {f:Addr} {fd:FuncData} (F:Fun K "rests" "rests" qd6 f fd) (T:Txt mg):qaM P w K mg base CX0 1 f fd ["many", "family"] qaP:=F.ok qnC (fun vs H Q E h=>absurd h id) (fun cdv A outer s H vs Q E hr h=>absurd h id)
abbrev qba:Stmt:=top 44
theorem qfC:qal ["family", "one", "other"] ["family", "one"] (qab qba):=fsc
theorem qfj {f:Addr} {fd:FuncData} (F:Fun K "first_missed" "first_missed" qba f fd) (T:Txt mg):qaM P w K mg base CX0 1 f fd ["family", "one"] qaP:=F.ok qfC (fun vs H Q E h=>absurd h id) (fun cdv A outer s H vs Q E hr h=>absurd h id)
abbrev qf9:Stmt:=top 42
theorem qoV:qal ["many", "family", "found", "one"] ["many", "family"] (qab qf9):=fsc
theorem qp8 {f:Addr} {fd:FuncData} (F:Fun K "hits" "hits" qf9 f fd) (T:Txt mg):qaM P w K mg base CX0 1 f fd ["many", "family"] qaP:=F.ok qoV (fun vs H Q E h=>absurd h id) (fun cdv A outer s H vs Q E hr h=>absurd h id)
abbrev qbU:Stmt:=top 61
theorem qhz:qal ["family", "k"] ["family", "k"] (qab qbU):=fsc
theorem qhS {f:Addr} {fd:FuncData} (F:Fun K "always_in" "always_in" qbU f fd) (T:Txt mg):qaM P w K mg base CX0 1 f fd ["family", "k"] qaP:=F.ok qhz (fun vs H Q E h=>absurd h id) (fun cdv A outer s H vs Q E hr h=>absurd h id)
abbrev qbz:Stmt:=top 62
theorem qgw:qal ["family", "k"] ["family", "k"] (qab qbz):=fsc
theorem qgV {f:Addr} {fd:FuncData} (F:Fun K "always_out" "always_out" qbz f fd) (T:Txt mg):qaM P w K mg base CX0 1 f fd ["family", "k"] qaP:=F.ok qgw (fun vs H Q E h=>absurd h id) (fun cdv A outer s H vs Q E hr h=>absurd h id)
abbrev qc9:Stmt:=top 63
theorem qkP:qal ["one", "other"] ["one", "other"] (qab qc9):=fsc
theorem qkO {f:Addr} {fd:FuncData} (F:Fun K "either" "either" qc9 f fd) (T:Txt mg):qaM P w K mg base CX0 1 f fd ["one", "other"] qaP:=F.ok qkP (fun vs H Q E h=>absurd h id) (fun cdv A outer s H vs Q E hr h=>absurd h id)
abbrev qf4:Stmt:=top 64
theorem qpu:qal ["one", "other", "joined", "a"] ["one", "other"] (qab qf4):=fsc
theorem qoS {f:Addr} {fd:FuncData} (F:Fun K "both" "both" qf4 f fd) (T:Txt mg):qaM P w K mg base CX0 1 f fd ["one", "other"] qaP:=F.ok qpu (fun vs H Q E h=>absurd h id) (fun cdv A outer s H vs Q E hr h=>absurd h id)
abbrev qaE:Stmt:=top 45
theorem qcP:qal ["family", "one", "k", "other"] ["family", "one", "k"] (qab qaE):=fsc
theorem qcV {f:Addr} {fd:FuncData} (F:Fun K "first_met_by_alone" "first_met_by_alone" qaE f fd) (T:Txt mg):qaM P w K mg base CX0 1 f fd ["family", "one", "k"] qaP:=F.ok qcP (fun vs H Q E h=>absurd h id) (fun cdv A outer s H vs Q E hr h=>absurd h id)
abbrev qc8:Stmt:=top 43
theorem qmy:qal ["family", "one", "missed", "own", "k", "other"] ["family", "one"] (qab qc8):=fsc
theorem qkk {f:Addr} {fd:FuncData} (F:Fun K "looked" "looked" qc8 f fd) (T:Txt mg):qaM P w K mg base CX0 1 f fd ["family", "one"] qaP:=F.ok qmy (fun vs H Q E h=>absurd h id) (fun cdv A outer s H vs Q E hr h=>absurd h id)
abbrev qaT:Stmt:=top 48
theorem qeg:qal ["many", "one", "other", "s"] ["many", "one", "other"] (qab qaT):=fsc
theorem qee {f:Addr} {fd:FuncData} (F:Fun K "first_left_out" "first_left_out" qaT f fd) (T:Txt mg):qaM P w K mg base CX0 1 f fd ["many", "one", "other"] qaP:=F.ok qeg (fun vs H Q E h=>absurd h id) (fun cdv A outer s H vs Q E hr h=>absurd h id)
abbrev qf1:Stmt:=top 47
theorem qqv:qal ["many", "one", "other", "a", "b", "s"] ["many", "one", "other"] (qab qf1):=fsc
theorem qqf {f:Addr} {fd:FuncData} (F:Fun K "held" "held" qf1 f fd) (T:Txt mg):qaM P w K mg base CX0 1 f fd ["many", "one", "other"] qaP:=F.ok qqv (fun vs H Q E h=>absurd h id) (fun cdv A outer s H vs Q E hr h=>absurd h id)
abbrev qb7:Stmt:=top 50
theorem qi1:qal ["many", "family"] ["many", "family"] (qab qb7):=fsc
theorem qib {f:Addr} {fd:FuncData} (F:Fun K "table_of" "table_of" qb7 f fd) (T:Txt mg):qaM P w K mg base CX0 1 f fd ["many", "family"] qaP:=F.ok qi1 (fun vs H Q E h=>absurd h id) (fun cdv A outer s H vs Q E hr h=>absurd h id)
abbrev qcx:Stmt:=top 51
theorem qjL:qal ["many", "family"] ["many", "family"] (qab qcx):=fsc
theorem qjK {f:Addr} {fd:FuncData} (F:Fun K "noes_by" "noes_by" qcx f fd) (T:Txt mg):qaM P w K mg base CX0 1 f fd ["many", "family"] qaP:=F.ok qjL (fun vs H Q E h=>absurd h id) (fun cdv A outer s H vs Q E hr h=>absurd h id)
abbrev qa0:Stmt:=top 55
theorem qeC:qal ["many", "table", "x", "y", "x_alone", "y_alone", "s"] ["many", "table", "x", "y"] (qab qa0):=fsc
theorem qeA {f:Addr} {fd:FuncData} (F:Fun K "first_parting" "first_parting" qa0 f fd) (T:Txt mg):qaM P w K mg base CX0 1 f fd ["many", "table", "x", "y"] qaP:=F.ok qeC (fun vs H Q E h=>absurd h id) (fun cdv A outer s H vs Q E hr h=>absurd h id)
abbrev qbi:Stmt:=top 54
theorem qfZ:qal ["many", "table", "x", "y", "s", "t"] ["many", "table", "x", "y"] (qab qbi):=fsc
theorem qfR {f:Addr} {fd:FuncData} (F:Fun K "compared_in" "compared_in" qbi f fd) (T:Txt mg):qaM P w K mg base CX0 1 f fd ["many", "table", "x", "y"] qaP:=F.ok qfZ (fun vs H Q E h=>absurd h id) (fun cdv A outer s H vs Q E hr h=>absurd h id)
abbrev qcb:Stmt:=top 53
theorem qiO:qal ["many", "family", "x", "y"] ["many", "family", "x", "y"] (qab qcb):=fsc
theorem qit {f:Addr} {fd:FuncData} (F:Fun K "compared" "compared" qcb f fd) (T:Txt mg):qaM P w K mg base CX0 1 f fd ["many", "family", "x", "y"] qaP:=F.ok qiO (fun vs H Q E h=>absurd h id) (fun cdv A outer s H vs Q E hr h=>absurd h id)
abbrev qbP:Stmt:=top 57
theorem qh0:qal ["many", "table", "k"] ["many", "table", "k"] (qab qbP):=fsc
theorem qhu {f:Addr} {fd:FuncData} (F:Fun K "turned_by" "turned_by" qbP f fd) (T:Txt mg):qaM P w K mg base CX0 1 f fd ["many", "table", "k"] qaP:=F.ok qh0 (fun vs H Q E h=>absurd h id) (fun cdv A outer s H vs Q E hr h=>absurd h id)
abbrev qd7:Stmt:=top 56
theorem qmS:qal ["many", "family", "table"] ["many", "family"] (qab qd7):=fsc
theorem qns {f:Addr} {fd:FuncData} (F:Fun K "turns" "turns" qd7 f fd) (T:Txt mg):qaM P w K mg base CX0 1 f fd ["many", "family"] qaP:=F.ok qmS (fun vs H Q E h=>absurd h id) (fun cdv A outer s H vs Q E hr h=>absurd h id)
abbrev qa8:Stmt:=top 35
theorem qeU:qal ["numbers"] ["numbers"] (qab qa8):=fsc
theorem qfB {f:Addr} {fd:FuncData} (F:Fun K "show_numbers" "show_numbers" qa8 f fd) (T:Txt mg):qaM P w K mg base CX0 1 f fd ["numbers"] qaP:=F.ok qeU (fun vs H Q E h=>absurd h id) (fun cdv A outer s H vs Q E hr h=>absurd h id)
abbrev qaD:Stmt:=top 36
theorem qcW:qal ["words", "told"] ["words", "told"] (qab qaD):=fsc
theorem qcT {f:Addr} {fd:FuncData} (F:Fun K "show_word_and_sets" "show_word_and_sets" qaD f fd) (T:Txt mg):qaM P w K mg base CX0 1 f fd ["words", "told"] qaP:=F.ok qcW (fun vs H Q E h=>absurd h id) (fun cdv A outer s H vs Q E hr h=>absurd h id)
abbrev qbj:Stmt:=top 37
theorem qfY:qal ["words", "told"] ["words", "told"] (qab qbj):=fsc
theorem qfL {f:Addr} {fd:FuncData} (F:Fun K "show_looked" "show_looked" qbj f fd) (T:Txt mg):qaM P w K mg base CX0 1 f fd ["words", "told"] qaP:=F.ok qfY (fun vs H Q E h=>absurd h id) (fun cdv A outer s H vs Q E hr h=>absurd h id)
abbrev qdf:Stmt:=top 59
theorem qlX:qal ["counts", "lists", "count"] ["counts"] (qab qdf):=fsc
theorem qlk {f:Addr} {fd:FuncData} (F:Fun K "ranked" "ranked" qdf f fd) (T:Txt mg):qaM P w K mg base CX0 1 f fd ["counts"] qaP:=F.ok qlX (fun vs H Q E h=>absurd h id) (fun cdv A outer s H vs Q E hr h=>absurd h id)
abbrev qd0:Stmt:=top 58
theorem qnM:qal ["many", "family", "table", "x", "y", "told"] ["many", "family"] (qab qd0):=fsc
theorem qmP {f:Addr} {fd:FuncData} (F:Fun K "ranks" "ranks" qd0 f fd) (T:Txt mg):qaM P w K mg base CX0 1 f fd ["many", "family"] qaP:=F.ok qnM (fun vs H Q E h=>absurd h id) (fun cdv A outer s H vs Q E hr h=>absurd h id)
abbrev qbD:Stmt:=top 39
theorem qgL:qal ["words", "names"] ["words", "names"] (qab qbD):=fsc
theorem qgW {f:Addr} {fd:FuncData} (F:Fun K "show_alike" "show_alike" qbD f fd) (T:Txt mg):qaM P w K mg base CX0 1 f fd ["words", "names"] qaP:=F.ok qgL (fun vs H Q E h=>absurd h id) (fun cdv A outer s H vs Q E hr h=>absurd h id)
abbrev qbC:Stmt:=top 38
theorem qgY:qal ["words", "told"] ["words", "told"] (qab qbC):=fsc
theorem qgn {f:Addr} {fd:FuncData} (F:Fun K "show_ranks" "show_ranks" qbC f fd) (T:Txt mg):qaM P w K mg base CX0 1 f fd ["words", "told"] qaP:=F.ok qgY (fun vs H Q E h=>absurd h id) (fun cdv A outer s H vs Q E hr h=>absurd h id)
abbrev qbQ:Stmt:=top 68
theorem qhg:qal ["weights", "one"] ["weights", "one"] (qab qbQ):=fsc
theorem qho {f:Addr} {fd:FuncData} (F:Fun K "weight_of" "weight_of" qbQ f fd) (T:Txt mg):qaM P w K mg base CX0 1 f fd ["weights", "one"] qaP:=F.ok qhg (fun vs H Q E h=>absurd h id) (fun cdv A outer s H vs Q E hr h=>absurd h id)
abbrev qc6:Stmt:=top 70
theorem ql0:qal ["x", "y", "s", "t", "yes", "no"] ["x", "y", "s", "t"] (qab qc6):=fsc
theorem ql7 {f:Addr} {fd:FuncData} (F:Fun K "traded" "traded" qc6 f fd) (T:Txt mg):qaM P w K mg base CX0 1 f fd ["x", "y", "s", "t"] qaP:=F.ok ql0 (fun vs H Q E h=>absurd h id) (fun cdv A outer s H vs Q E hr h=>absurd h id)
abbrev qbn:Stmt:=top 74
theorem qfS:qal ["weights", "yes", "no", "bar"] ["weights", "yes", "no"] (qab qbn):=fsc
theorem qfP {f:Addr} {fd:FuncData} (F:Fun K "bar_between" "bar_between" qbn f fd) (T:Txt mg):qaM P w K mg base CX0 1 f fd ["weights", "yes", "no"] qaP:=F.ok qfS (fun vs H Q E h=>absurd h id) (fun cdv A outer s H vs Q E hr h=>absurd h id)
abbrev qa2:Stmt:=top 72
theorem qeD:qal ["length", "most", "told", "first"] ["length", "most"] (qab qa2):=fsc
theorem qew {f:Addr} {fd:FuncData} (F:Fun K "falling_lists" "falling_lists" qa2 f fd) (T:Txt mg):qaM P w K mg base CX0 1 f fd ["length", "most"] qaP:=F.ok qeD (fun vs H Q E h=>absurd h id) (fun cdv A outer s H vs Q E hr h=>absurd h id)
abbrev qbW:Stmt:=top 73
theorem qh1:qal ["many", "lists", "falling", "weights", "names", "weight", "k"] ["many", "lists", "falling"] (qab qbW):=fsc
theorem qht {f:Addr} {fd:FuncData} (F:Fun K "given_out" "given_out" qbW f fd) (T:Txt mg):qaM P w K mg base CX0 1 f fd ["many", "lists", "falling"] qaP:=F.ok qh1 (fun vs H Q E h=>absurd h id) (fun cdv A outer s H vs Q E hr h=>absurd h id)
abbrev qcw:Stmt:=top 71
theorem qkc:qal ["many", "family", "lists", "yes", "no", "falling", "weights", "bar"] ["many", "family", "lists"] (qab qcw):=fsc
theorem qjU {f:Addr} {fd:FuncData} (F:Fun K "weighed" "weighed" qcw f fd) (T:Txt mg):qaM P w K mg base CX0 1 f fd ["many", "family", "lists"] qaP:=F.ok qkc (fun vs H Q E h=>absurd h id) (fun cdv A outer s H vs Q E hr h=>absurd h id)
abbrev qa9:Stmt:=top 40
theorem qfl:qal ["words", "told", "yes", "no"] ["words", "told"] (qab qa9):=fsc
theorem qeZ {f:Addr} {fd:FuncData} (F:Fun K "show_weights" "show_weights" qa9 f fd) (T:Txt mg):qaM P w K mg base CX0 1 f fd ["words", "told"] qaP:=F.ok qfl (fun vs H Q E h=>absurd h id) (fun cdv A outer s H vs Q E hr h=>absurd h id)
abbrev qbA:Stmt:=top 69
theorem qdI:qal ["many", "family", "told"] ["many", "family"] (qab qbA):=fsc
def qs9 (cM:Addr):Sp:=qnX fun x y H Q E=>∃n:Nat,x = .int n/\5<n/\E (.ref cM) none H
theorem qgA {f:Addr} {fd:FuncData} (F:Fun K "by_weights" "by_weights" qbA f fd) (T:Txt mg) {cD aW cX cN cF cH cO cM:Addr} (Z:Xt P w K mg cD aW cX cN cF cH cO cM) {f_69:Addr} {fd_69:FuncData} (C_69:Cal P w K mg base "ranks" 1 ["many", "family"] qaP f_69 fd_69) {f_56:Addr} {fd_56:FuncData} (C_56:Cal P w K mg base "weighed" 1 ["many", "family", "lists"] qaP f_56 fd_56) {f_63:Addr} {fd_63:FuncData} (C_63:Cal P w K mg base "traded" 1 ["x", "y", "s", "t"] qaP f_63 fd_63):qaM P w K mg base (CX1 P w) 2 f fd ["many", "family"] (qs9 cM):=by
 have sc:=qdI
 refine F.okX qdI (fun vs H Q E h=>by obtain ⟨_,_,rfl,_⟩:=h;rfl) (fun cdv A outer s H vs Q E hr h=>?_)
 obtain ⟨x0,x1,rfl,h⟩:=h
 refine ⟨_,(qac (qaA (qap qjP (pv 0) (qdX T.c_MOST_VOTERS (by rfl)) (qat _)) (qag (qbe (by rfl) Z.gM Z.xM ygr rfl qaU qaf)) qam)
   (qac (qax (i:=2) sc.nd rfl (Or.inl rfl) (pec C_69 hr (qaa (pv 0) (qaa (pv 1) qad))))
   (qac (qaA (qap (qaz (K:=K) rfl hr.units0) (qaR (qcl (K:=K) rfl) (pv 2) qah (fun _ _=>rfl)) qaf (qat _)) (qag (qao (pec C_63 hr (qaa (qaR (qcl (K:=K) rfl) (pv 2) qah (fun _ _=>rfl)) (qaa (qaR (qcl (K:=K) rfl) (pv 2) qah (fun _ _=>rfl)) (qaa (qaR (qcl (K:=K) rfl) (pv 2) qah (fun _ _=>rfl)) (qaa (qaR (qcl (K:=K) rfl) (pv 2) qah (fun _ _=>rfl)) qad))))))) qam)
   (qag (qao (pec C_56 hr (qaa (pv 0) (qaa (pv 1) (qaa (qaR (qcl (K:=K) rfl) (pv 2) qah (fun _ _=>rfl)) qad))))))))),?_⟩
 refine rdg (σ':=[some x0,some x1,none]) rfl ?_
 obtain ⟨n,rfl,hn,q⟩:=h
 walk_at "rd"
 rw [if_pos (by omega)]
 exact q
abbrev qaL:Stmt:=top 83
theorem qcm:qal ["many", "family", "x", "y"] ["many", "family", "x", "y"] (qab qaL):=fsc
def qug (r:V->V->V->V->Hp->VK->XK->Prop):Sp:=fun vs H Q E=>∃a b c d,vs=[a,b,c,d]/\r a b c d H Q E
def qqh (cX:Addr):Sp:=qug fun u v x y H Q E=>∃i:Nat,x = .int i/\y = .int i/\E (.ref cX) none H
theorem qdC {f:Addr} {fd:FuncData} (F:Fun K "compared_unlike" "compared_unlike" qaL f fd) (T:Txt mg) {cD aW cX cN cF cH cO cM:Addr} (Z:Xt P w K mg cD aW cX cN cF cH cO cM) {f_49:Addr} {fd_49:FuncData} (C_49:Cal P w K mg base "compared" 1 ["many", "family", "x", "y"] qaP f_49 fd_49):qaM P w K mg base (CX1 P w) 2 f fd ["many", "family", "x", "y"] (qqh cX):=by
 have sc:=qcm
 refine F.okX qcm (fun vs H Q E h=>by obtain ⟨_,_,_,_,rfl,_⟩:=h;rfl) (fun cdv A outer s H vs Q E hr h=>?_)
 obtain ⟨x0,x1,x2,x3,rfl,h⟩:=h
 refine ⟨_,(qac (qaA (qap (qaz (K:=K) rfl hr.units0) (pv 2) (pv 3) (qat _)) (qag (qbe (by rfl) Z.gX Z.xX ygr rfl qaU qaf)) qam)
   (qag (qao (pec C_49 hr (qaa (pv 0) (qaa (pv 1) (qaa (pv 2) (qaa (pv 3) qad)))))))),?_⟩
 refine rdg (σ':=[some x0,some x1,some x2,some x3]) rfl ?_
 obtain ⟨i,rfl,rfl,q⟩:=h
 walk_at "rd"
 exact q
abbrev qcc:Stmt:=top 80
theorem qfh:qal ["word"] ["word"] (qab qcc):=fsc
def qfu (cX:Addr):Sp:=qtu fun x H Q E=>∃w:Str,x = .str w/\As w/\w.length<=1000/\(Tx.Wd w->∀H',qas H H'->Q (.str w) H')/\(¬Tx.Wd w->∀H',qas H H'->E (.ref cX) none H')
theorem qic {f:Addr} {fd:FuncData} (F:Fun K "new_name" "new_name" qcc f fd) (T:Txt mg) {cD aW cX cN cF cH cO cM:Addr} (Z:Xt P w K mg cD aW cX cN cF cH cO cM) {f_54:Addr} {fd_54:FuncData} (C_54:Cal P w K mg base "is_word" 1 ["text"] qeM f_54 fd_54):qaM P w K mg base (CX1 P w) 2 f fd ["word"] (qfu cX):=by
 have sc:=qfh
 refine F.okX qfh (fun vs H Q E h=>by obtain ⟨_,rfl,_⟩:=h;rfl) (fun cdv A outer s H vs Q E hr h=>?_)
 obtain ⟨x0,rfl,h⟩:=h
 refine ⟨_,(qac (qaA (qdy (qcg (pec C_54 hr (qaa (pv 0) qad)))) (qag (qbe (by rfl) Z.gX Z.xX ygr rfl qaU qaf)) qam)
   (qag (qao (pv 0)))),?_⟩
 refine rdg (σ':=[some x0]) rfl ?_
 obtain ⟨w,rfl,ha,hl,q,qx⟩:=h
 walk_at "rd"
 refine ⟨_,rfl,w,rfl,ha,hl,fun H' s'=>⟨wdB w,rfl,?_⟩⟩
 by_cases c:wdB w=true
 . rw [c,if_neg (by decide)]
   exact q (qfo.mp c) _ s'
 . rw [yfr.mpr c,if_pos (by decide)]
   exact qx (fun z=>c (qfo.mpr z)) _ s'
abbrev qb9:Stmt:=top 79
theorem qfv:qal ["row", "deed", "parts"] ["row"] (qab qb9):=fsc
def qe5 (K:W.Frag) (cO:Addr):Sp:=qtu fun x H Q E=>(∃(z d:Str) (r ks:List Str),x = .str z/\Prt z d r ks/\∀p H',H p=none->qas H H'->H' p=some (.lst (sV (d::r)))->Q (.ref p) H')\/(∃z:Str,x = .str z/\qsi z/\∀H',qas H H'->E (.ref cO) none H')\/∃t,qdZ H x=some t/\t ≠ "str" /\ E (.ref cO) none H
theorem qis {f:Addr} {fd:FuncData} (F:Fun K "parts_of" "parts_of" qb9 f fd) (T:Txt mg) {cD aW cX cN cF cH cO cM:Addr} (Z:Xt P w K mg cD aW cX cN cF cH cO cM)  : qaM P w K mg base (CX1 P w) 1 f fd ["row"] (qe5 K cO):=by
 have sc:=qfv
 refine F.okX qfv (fun vs H Q E h=>by obtain ⟨_,rfl,_⟩:=h;rfl) (fun cdv A outer s H vs Q E hr h=>?_)
 obtain ⟨x0,rfl,h⟩:=h
 refine ⟨_,(qac (qaA (qdy (qcg (qau qci (by rfl) T.n_isinstance PyProof.Rows.boot_isinstance (qaa (pv 0) (qaa (qd3 (v := .ty "str") (by rfl) T.n_str PyProof.Rows.boot_str rfl) qad))))) (qag (qbe (by rfl) Z.gO Z.xO ygr rfl qaU qaf)) qam)
   (qac (qax (i:=1) sc.nd rfl (Or.inl rfl) (qaR (qcl (K:=K) rfl) (qb3 ygm ygs ygt qgu (pv 0) (qaa qaf qad)) qah (fun _ _=>rfl)))
   (qac (qaA (qmg (qoR (P:=P) (w:=w) (K:=K) rfl rfl rfl (pv 1) (qcj (v := .ref aW) (by rfl) Z.gW rfl)) (by with_unfolding_all rfl)) (qag (qbe (by rfl) Z.gO Z.xO ygr rfl qaU qaf)) qam)
   (qac (qax (i:=2) sc.nd rfl (Or.inl rfl) (qjy (qap (qaz (K:=K) rfl hr.units0) (pv 1) qaf (qat _)) (qb3 ygm ygs ygt qk2 (pv 0) (qaa qaf (qaa qah qad))) (qb3 ygm ygs ygt qgu (pv 0) (qaa qaf qad))))
   (qac (qaA (qap (qgk (K:=K) rfl hr.units0) (qau (qaV (K:=K) rfl) (by rfl) T.n_len PySem.boot_len (qaa (pv 2) qad)) (qar qby (qau (qaV (K:=K) rfl) (by rfl) T.n_len PySem.boot_len (qaa (qiE (P:=P) (w:=w) (K:=K) rfl rfl rfl (qcj (v := .ref aW) (by rfl) Z.gW rfl) (pv 1) (fun _ _=>rfl)) qad)) qah) (qat _)) (qag (qbe (by rfl) Z.gO Z.xO ygr rfl qaU qaf)) qam)
   (qag (qao (pv 2)))))))),?_⟩
 refine rdg (σ':=[some x0,none,none]) rfl ?_
 rcases h with ⟨z,d,r,ks,rfl,hP,q⟩ | ⟨z,rfl,⟨hz,d,h0,hd⟩,q⟩ | ⟨t,hk,hne,q⟩
 rotate_left 2
 . walk_at "rd"
   refine ⟨_, "str",⟨rfl,rfl⟩,t,hk,by decide,?_⟩
   rw [qmq hne,if_pos rfl]
   exact q
 . obtain ⟨kvs,kd1,kd2⟩:=Z.wn.kv
   obtain ⟨t,vt,ht⟩:=kd2 d ks hP.kd
   have hz:=hP.sz
   have hln:=hP.ln
   walk_at "rd"
   refine ⟨_, "str",⟨rfl,rfl⟩, "str",rfl,by decide,?_⟩
   rw [if_neg (by decide)]
   refine ⟨rfl,z,_,rfl,rfl,by rw [Tx.lit_space];rfl,by omega,fun p1 hp1=>?_⟩
   generalize g1:upd H p1 _=G1
   have a1:=qaJ g1
   have s1:=qav g1 hp1
   refine qbg (SqL.of a1) (qcv hP.hd) ⟨kvs,Sum.inr d,rfl,kd1,false,by rw [vt];rfl,?_⟩
   rw [if_neg (by decide)]
   (try walk_at "rd")
   have hps:=hP.ps
   by_cases hl:d=("let" : Str)
   . rw [if_pos hl] at hps
     rw [if_pos hl]
     refine ⟨rfl,z,_,2,rfl,rfl,by rw [Tx.lit_space];rfl,by omega,by decide,fun p2 hp2=>?_⟩
     rw [show _root_.PySem.Txt.splitMax z " " ((2:Nat):Int)=d::r from hps]
     refine ⟨p2,rfl,_,.inl (SqL.of qai),kvs,Sum.inr d,rfl,kd1,_,vt,t,rfl,_,.inr (ht _),?_⟩
     rw [qaK,qaK,yea]
     exact ⟨false,by rw [decide_eq_true (by omega)];rfl,qfy (q p2 _ (qaQ s1 hp2) (s1.trans (qas.new hp2)) qai)⟩
   . rw [if_neg hl] at hps
     rw [if_neg hl]
     refine ⟨rfl,z,_,rfl,rfl,by rw [Tx.lit_space];rfl,by omega,fun p2 hp2=>?_⟩
     rw [hps]
     refine ⟨p2,rfl,_,.inl (SqL.of qai),kvs,Sum.inr d,rfl,kd1,_,vt,t,rfl,_,.inr (ht _),?_⟩
     rw [qaK,qaK,yea]
     exact ⟨false,by rw [decide_eq_true (by omega)];rfl,qfy (q p2 _ (qaQ s1 hp2) (s1.trans (qas.new hp2)) qai)⟩
 . walk_at "rd"
   refine ⟨_, "str",⟨rfl,rfl⟩, "str",rfl,by decide,?_⟩
   rw [if_neg (by decide)]
   refine ⟨rfl,z,_,rfl,rfl,by rw [Tx.lit_space];rfl,by omega,fun p1 hp1=>?_⟩
   generalize g1:upd H p1 _=G1
   have a1:=qaJ g1
   have s1:=qav g1 hp1
   rcases hd with e | ⟨ks,e,ne⟩
   . obtain ⟨kvs,kd1,kd2⟩:=Z.wn.kn
     refine qbg (SqL.of a1) (qcv h0) ⟨kvs,Sum.inr d,rfl,kd1,true,by rw [kd2 d e];rfl,?_⟩
     rw [if_pos rfl]
     exact q _ s1
   obtain ⟨kvs,kd1,kd2⟩:=Z.wn.kv
   obtain ⟨t,vt,ht⟩:=kd2 d ks e
   refine qbg (SqL.of a1) (qcv h0) ⟨kvs,Sum.inr d,rfl,kd1,false,by rw [vt];rfl,?_⟩
   rw [if_neg (by decide)]
   (try walk_at "rd")
   by_cases hl:d=("let" : Str)
   . rw [if_pos hl] at ne
     rw [if_pos hl]
     refine ⟨rfl,z,_,2,rfl,rfl,by rw [Tx.lit_space];rfl,by omega,by decide,fun p2 hp2=>?_⟩
     refine ⟨p2,rfl,_,.inl (SqL.of qai),kvs,Sum.inr d,rfl,kd1,_,vt,t,rfl,_,.inr (ht _),?_⟩
     rw [qaK,qaK]
     exact ⟨true,by rw [decide_eq_false (by have:(_root_.PySem.Txt.splitMax z " " ((2:Nat):Int)).length≠ks.length+1:=ne;omega)];rfl,qha (q _ (s1.trans (qas.new hp2)))⟩
   . rw [if_neg hl] at ne
     rw [if_neg hl]
     refine ⟨rfl,z,_,rfl,rfl,by rw [Tx.lit_space];rfl,by omega,fun p2 hp2=>?_⟩
     refine ⟨p2,rfl,_,.inl (SqL.of qai),kvs,Sum.inr d,rfl,kd1,_,vt,t,rfl,_,.inr (ht _),?_⟩
     rw [qaK,qaK]
     exact ⟨true,by rw [decide_eq_false (by omega)];rfl,qha (q _ (s1.trans (qas.new hp2)))⟩
abbrev qaX:Stmt:=qfs (top 78) 0
theorem qcJ:qal ["self", "text"] ["self", "text"] (qab qaX):=fsc
theorem qi9 {ws:List Str} (hw:Tx.Wds ws):As (_root_.PySem.Txt.join " " ws)/\(_root_.PySem.Txt.join " " ws).length<=900:=by
 rw [Tx.lit_space]
 refine ⟨qh8 (by decide) fun y hy=>qpq (hw.wd y hy),?_⟩
 rw [<-Tx.len_sg,Tx.txt_join]
 have:=Tx.jn_len (c:=32) (M:=8) (xs:=ws.map Tx.sg) fun p hp=>by
   obtain ⟨w,hw',rfl⟩:=ybn.mp hp
   rw [Tx.len_sg]
   exact (hw.wd w hw').2.1
 rw [ycj] at this
 have:=hw.few
 omega
def qi3 (cD cX:Addr):Sp:=qnX fun x y H Q E=>∃(d dx:Addr),x = .ref d/\H d=some (.ins cD dx [])/\((∃ws:List Str,y = .str (_root_.PySem.Txt.join " " ws)/\Tx.Wds ws/\∀pk H',H pk=none->qea cD H' d pk ws []->SmB d H H'->Q .non H')\/(∃z:Str,y = .str z/\As z/\z.length<=900/\rN z=none/\∀H',qas H H'->E (.ref cX) none H')\/∃t,qdZ H y=some t/\t ≠ "str" /\ E (.ref cX) none H)
theorem qez {f:Addr} {fd:FuncData} (F:Fun K "__init__" "Desk.__init__" qaX f fd) (T:Txt mg) {cD aW cX cN cF cH cO cM:Addr} (Z:Xt P w K mg cD aW cX cN cF cH cO cM) {f_25:Addr} {fd_25:FuncData} (C_25:qeu P w K mg base "read_names" 2 ["text"] (qdt K cX) f_25 fd_25):qaM P w K mg base (CX1 P w) 3 f fd ["self", "text"] (qi3 cD cX):=by
 have sc:=qcJ
 refine F.okX qcJ (fun vs H Q E h=>by obtain ⟨_,_,rfl,_⟩:=h;rfl) (fun cdv A outer s H vs Q E hr h=>?_)
 obtain ⟨x0,x1,rfl,h⟩:=h
 refine ⟨_,(qac (qob (pv 0) (qbI C_25 hr (by decide) (by rfl) qbF (qaa (pv 1) qad)) rfl)
   (qag (qob (pv 0) qg0 rfl))),?_⟩
 refine rdg (σ':=[some x0,some x1]) rfl ?_
 obtain ⟨d,dx,rfl,hd,⟨ws,rfl,hw,q⟩ | ⟨z,rfl,ha,hl,hn,q⟩ | ⟨t,hk,hne,q⟩⟩:=h
 rotate_left
 . walk_at "rd"
   exact ⟨_,rfl,.inl ⟨z,rfl,ha,hl,fun ws e=>(by rw [hn] at e;cases e),fun _ H' s'=>q H' s'⟩⟩
 . walk_at "rd"
   exact ⟨_,rfl,.inr ⟨t,hk,hne,q⟩⟩
 walk_at "rd"
 refine ⟨_,rfl,.inl ⟨_,rfl,(qi9 hw).1,(qi9 hw).2,fun ws0 e0 pw H1 hpw s1 a1=>?_,fun e0=>(by rw [qkQ hw] at e0;cases e0)⟩⟩
 rw [qkQ hw] at e0
 cases e0
 (try walk_at "rd")
 have npd:pw≠d:=fun e=>by rw [e,hd] at hpw;cases hpw
 refine ⟨cD,dx,[],s1 _ _ hd,Z.cl,Z.nw,by decide,fun pk hpk=>?_⟩
 have nkd:pk≠d:=fun e=>by rw [e,qai] at hpk;cases hpk
 rw [qaq nkd] at hpk
 have nkw:pk≠pw:=fun e=>by rw [e,a1] at hpk;cases hpk
 refine ⟨cD,dx,_,by rw [qaq (Ne.symm nkd),qai],Z.cl,Z.nk,by show 1<1000;decide,?_⟩
 rw [qnF]
 refine q pk _ (qaQ s1 hpk) ⟨⟨dx,pw,qai,by rw [qaq npd,qaq (Ne.symm nkw),qaq npd];exact a1⟩,⟨[],by rw [qaq nkd,qai],rfl,fun n=>rfl⟩,hw,fun n fs h=>(by cases h),by decide⟩ fun b o e hb=>?_
 rw [qaq hb,qaq (qay (s1 _ _ e) hpk),qaq hb]
 exact s1 _ _ e
abbrev qaS:Stmt:=qfs (top 78) 3
theorem qcA:qal ["self", "word"] ["self", "word"] (qab qaS):=fsc
def qin (cD cN:Addr):Sp:=qnX fun x y H Q E=>∃(d pk:Addr) (ws:List Str) (m:List (Str×List Nat)) (n:Str),x = .ref d/\qea cD H d pk ws m/\y = .str n/\(∀fs,m.lookup n=some fs->∀p,H p=some (.lst (nV fs))->Q (.ref p) H)/\(m.lookup n=none->E (.ref cN) none H)
theorem qd9 {f:Addr} {fd:FuncData} (F:Fun K "family_by" "Desk.family_by" qaS f fd) (T:Txt mg) {cD aW cX cN cF cH cO cM:Addr} (Z:Xt P w K mg cD aW cX cN cF cH cO cM)  : qaM P w K mg base (CX1 P w) 1 f fd ["self", "word"] (qin cD cN):=by
 have sc:=qcA
 refine F.okX qcA (fun vs H Q E h=>by obtain ⟨_,_,rfl,_⟩:=h;rfl) (fun cdv A outer s H vs Q E hr h=>?_)
 obtain ⟨x0,x1,rfl,h⟩:=h
 refine ⟨_,(qac (qaA (qmg (qhP (qmL hr) (pv 1) (qdj (pv 0) rfl)) (by with_unfolding_all rfl)) (qag (qbe (by rfl) Z.gN Z.xN ygr rfl qaU qaf)) qam)
   (qag (qao (qqw (qmL hr) (qdj (pv 0) rfl) (pv 1) (fun _ _=>rfl))))),?_⟩
 refine rdg (σ':=[some x0,some x1]) rfl ?_
 obtain ⟨d,pk,ws,m,n,rfl,D,rfl,q,qx⟩:=h
 obtain ⟨dx,pw,o1,o2⟩:=D.ob
 obtain ⟨kvs,k1,k2⟩:=D.dc
 walk_at "rd"
 cases e:m.lookup n with
 | none=>exact ⟨cD,dx,_,o1,Z.cl,Z.nk,_,qf8 _ _,pk,rfl,_,qkf.k (k:=Sum.inr n) k1,true,by rw [k2.no e];rfl,qha (qx e)⟩
 | some fs =>
   obtain ⟨p,v1,v2⟩:=k2.get e
   refine ⟨cD,dx,_,o1,Z.cl,Z.nk,_,qf8 _ _,pk,rfl,_,qkf.k (k:=Sum.inr n) k1,false,by rw [v1];rfl,qfy ?_⟩
   exact ⟨cD,dx,_,o1,Z.cl,Z.nk,_,qf8 _ _,pk,rfl,_,(by have:=qkf.k (k:=Sum.inr n) k1;rw [v1] at this;exact this),q fs e p v2⟩
abbrev qaC:Stmt:=qfs (top 78) 4
theorem qbY:qal ["self", "name"] ["self", "name"] (qab qaC):=fsc
def qkW (cD cF:Addr):Sp:=qnX fun x y H Q E=>∃(d pk:Addr) (ws:List Str) (m:List (Str×List Nat)) (n:Str),x = .ref d/\qea cD H d pk ws m/\y = .str n/\(m.lookup n≠none\/m.length<20->Q .non H)/\(m.lookup n=none->20<=m.length->E (.ref cF) none H)
theorem qcR {f:Addr} {fd:FuncData} (F:Fun K "look_for_room" "Desk.look_for_room" qaC f fd) (T:Txt mg) {cD aW cX cN cF cH cO cM:Addr} (Z:Xt P w K mg cD aW cX cN cF cH cO cM)  : qaM P w K mg base (CX1 P w) 1 f fd ["self", "name"] (qkW cD cF):=by
 have sc:=qbY
 refine F.okX qbY (fun vs H Q E h=>by obtain ⟨_,_,rfl,_⟩:=h;rfl) (fun cdv A outer s H vs Q E hr h=>?_)
 obtain ⟨x0,x1,rfl,h⟩:=h
 refine ⟨_,(qag (qaA (PW.pt (qog (qmg (qhP (qmL hr) (pv 1) (qdj (pv 0) rfl)) (by with_unfolding_all rfl)) (qma (qap qsU (qau qko (by rfl) T.n_len PySem.boot_len (qaa (qdj (pv 0) rfl) qad)) (qdX T.c_MOST_KEPT (by rfl)) (qat _))))) (qag (qbe (by rfl) Z.gF Z.xF ygr rfl qaU qaf)) qam)),?_⟩
 refine rdg (σ':=[some x0,some x1]) rfl ?_
 obtain ⟨d,pk,ws,m,n,rfl,D,rfl,q,qx⟩:=h
 obtain ⟨dx,pw,o1,o2⟩:=D.ob
 obtain ⟨kvs,k1,k2⟩:=D.dc
 walk_at "rd"
 refine ⟨cD,dx,_,o1,Z.cl,Z.nk,_,qf8 _ _,pk,rfl,_,qkf.k (k:=Sum.inr n) k1,?_⟩
 cases e:m.lookup n with
 | some fs =>
   obtain ⟨p,v1,_⟩:=k2.get e
   exact ⟨false,by rw [v1];rfl,qfy (q (.inl (by rw [e];simp)))⟩
 | none =>
   have v1:=k2.no e
   refine ⟨true,by rw [v1];rfl,qha ⟨cD,dx,_,o1,Z.cl,Z.nk,_,qf8 _ _,pk,rfl,_,k1,?_⟩⟩
   by_cases h:m.length<20
   . rw [if_neg (by rw [k2.1];omega)]
     exact q (.inr h)
   . rw [if_pos (by rw [k2.1];omega)]
     exact qx e (by omega)
abbrev qa3:Stmt:=qfs (top 78) 2
theorem qcK:qal ["self", "kind", "word"] ["self", "kind", "word"] (qab qa3):=fsc
def qtD (r:V->V->V->Hp->VK->XK->Prop):Sp:=fun vs H Q E=>∃x y z,vs=[x,y,z]/\r x y z H Q E
def clK (cX cN cO:Addr):K4->Addr
 | .dd=>cO
 | .fy=>cN
 | .tx=>cX
theorem qmb {z:Str} (h:z.length<=900):(_root_.PySem.Txt.split z " ").length<=1000/\(_root_.PySem.Txt.split z "+").length<=1000/\∀q∈_root_.PySem.Txt.split z " ",(_root_.PySem.Txt.split q "+").length<=1000:=by
 rw [Tx.lit_space,Tx.lit_plus]
 refine ⟨ybt (Tx.split_len z 32) (by omega),ybt (Tx.split_len z 43) (by omega),fun q hq=>ybt (Tx.split_len q 43) ?_⟩
 have:=Tx.part_len z 32 q hq
 omega
theorem qrX {ws:List Str} (hw:Tx.Wds ws) {fs:List Nat} (h:Fml ws.length fs):(_root_.PySem.Txt.split (Tx.fT ws fs) " ").length<=1000/\∀q∈_root_.PySem.Txt.split (Tx.fT ws fs) " ",(_root_.PySem.Txt.split q "+").length<=1000:=by
 rw [Tx.split_fT hw h.lt]
 have hf:=h.few
 split
 . refine ⟨by decide,fun q hq=>?_⟩
   rw [ydi.mp hq,Tx.lit_plus]
   exact ybt (Tx.split_len _ 43) (by decide +kernel)
 . refine ⟨by rw [ycj];omega,fun q hq=>?_⟩
   obtain ⟨a,ha,rfl⟩:=ybn.mp hq
   rw [Tx.lit_plus]
   have:=Tx.sT_len hw (h.lt a ha)
   exact ybt (Tx.split_len _ 43) (by omega)
def qig (cD cX cN cO:Addr):Sp:=qtD fun x y z H Q E=>∃(d pk:Addr) (ws:List Str) (m:List (Str×List Nat)) (k w:Str),x = .ref d/\qea cD H d pk ws m/\y = .str k/\z = .str w/\w.length<=9000/\((∃th,Thg ws m k w th/\∀v H',qas H H'->ThV H' th v->Q v H')\/∃c,Rf ws m k w c/\w.length<=900/\∀H',qas H H'->E (.ref (clK cX cN cO c)) none H')
theorem qex {f:Addr} {fd:FuncData} (F:Fun K "thing_of" "Desk.thing_of" qa3 f fd) (T:Txt mg) {cD aW cX cN cF cH cO cM:Addr} (Z:Xt P w K mg cD aW cX cN cF cH cO cM) {f_20:Addr} {fd_20:FuncData} (C_20:qeu P w K mg base "read_family" 4 ["words", "text"] (qfe K cX) f_20 fd_20) {f_50:Addr} {fd_50:FuncData} (C_50:qeu P w K mg base "new_name" 2 ["word"] (qfu cX) f_50 fd_50) {f_05:Addr} {fd_05:FuncData} (C_05:qmE P w K mg base cD "family_by" 1 ["self", "word"] (qin cD cN) f_05 fd_05) {f_37:Addr} {fd_37:FuncData} (C_37:qeu P w K mg base "read_name" 1 ["words", "word"] (qc7 K cX) f_37 fd_37) {f_47:Addr} {fd_47:FuncData} (C_47:qeu P w K mg base "read_set" 2 ["words", "text"] (qdw K cX) f_47 fd_47):qaM P w K mg base (CX1 P w) 5 f fd ["self", "kind", "word"] (qig cD cX cN cO):=by
 have sc:=qcK
 refine F.okX qcK (fun vs H Q E h=>by obtain ⟨_,_,_,rfl,_⟩:=h;rfl) (fun cdv A outer s H vs Q E hr h=>?_)
 obtain ⟨x0,x1,x2,rfl,h⟩:=h
 refine ⟨_,(qac (qaA (qap (qaz (K:=K) rfl hr.units0) (pv 1) qaf (qat _)) (qag (qao (qbI C_50 hr (by decide) (by rfl) qbF (qaa (pv 2) qad)))) qam)
   (qac (qaA (qap (qaz (K:=K) rfl hr.units0) (pv 1) qaf (qat _)) (qag (qao (qcN (pv 0) Z.cl C_05 hr (by decide) qbF (qaa (pv 2) qad)))) qam)
   (qac (qaA (qap (qaz (K:=K) rfl hr.units0) (pv 1) qaf (qat _)) (qag (qao (qbI C_37 hr (by decide) (by rfl) qbF (qaa (qdj (pv 0) rfl) (qaa (pv 2) qad))))) qam)
   (qac (qaA (qap (qaz (K:=K) rfl hr.units0) (pv 1) qaf (qat _)) (qag (qao (qbI C_47 hr (by decide) (by rfl) qbF (qaa (qdj (pv 0) rfl) (qaa (pv 2) qad))))) qam)
   (qag (qao (qbI C_20 hr (by decide) (by rfl) qbF (qaa (qdj (pv 0) rfl) (qaa (pv 2) qad))))))))),?_⟩
 refine rdg (σ':=[some x0,some x1,some x2]) rfl ?_
 obtain ⟨d,pk,ws,m,k,w,rfl,D,rfl,rfl,lw,hT⟩:=h
 obtain ⟨dx,pw,o1,o2⟩:=D.ob
 walk_at "rd"
 have hw:=D.wd
 have h8:=hw.few
 have n1:¬(Str.ofString "family" = Str.ofString "new"):=by decide +kernel
 have n2:¬(Str.ofString "name" = Str.ofString "new"):=by decide +kernel
 have n3:¬(Str.ofString "name" = Str.ofString "family"):=by decide +kernel
 have n4:¬(Str.ofString "set" = Str.ofString "new"):=by decide +kernel
 have n5:¬(Str.ofString "set" = Str.ofString "family"):=by decide +kernel
 have n6:¬(Str.ofString "set" = Str.ofString "name"):=by decide +kernel
 have n7:¬(Str.ofString "text" = Str.ofString "new"):=by decide +kernel
 have n8:¬(Str.ofString "text" = Str.ofString "family"):=by decide +kernel
 have n9:¬(Str.ofString "text" = Str.ofString "name"):=by decide +kernel
 have n10:¬(Str.ofString "text" = Str.ofString "set"):=by decide +kernel
 rcases hT with ⟨th,hT,q⟩ | ⟨C,hR,lw9,q⟩
 . cases hT with
   | new h =>
     rw [if_pos rfl]
     exact ⟨_,rfl,w,rfl,qpq h,by have:=h.2.1;omega,fun _ H' s'=>q _ _ s' rfl,fun z=>absurd h z⟩
   | @fam _ fs h =>
     rw [if_neg n1,if_pos rfl]
     exact ⟨dx,_,o1,qcE _ _ (by decide +kernel) (by decide +kernel),_,_,rfl,d,pk,ws,m,w,rfl,D,rfl,fun fs' e p hp=>(by rw [h] at e;cases e;exact q _ _ (qas.refl _) ⟨p,rfl,hp⟩),fun e=>(by rw [h] at e;cases e)⟩
   | name h =>
     rw [if_neg n2,if_neg n3,if_pos rfl]
     exact ⟨cD,dx,_,o1,Z.cl,Z.nw,_,qdk _ _,_,_,rfl,pw,ws,w,rfl,o2,h8,rfl,fun _=>q _ _ (qas.refl _) rfl,fun hn=>absurd h hn⟩
   | @set a h =>
     obtain ⟨f1,f2,f3⟩:=qmb (ybt (Tx.sT_len hw h) (by decide))
     rw [if_neg n4,if_neg n5,if_neg n6,if_pos rfl]
     exact ⟨cD,dx,_,o1,Z.cl,Z.nw,_,qdk _ _,_,_,rfl,pw,ws,_,rfl,o2,hw,rfl,by omega,f2,fun a' e H' s'=>(by rw [Tx.rS_sT hw h] at e;cases e;exact q _ _ s' rfl),fun e=>(by rw [Tx.rS_sT hw h] at e;cases e)⟩
   | @text fs h =>
     obtain ⟨f1,f3⟩:=qrX hw h
     rw [if_neg n7,if_neg n8,if_neg n9,if_neg n10]
     exact ⟨cD,dx,_,o1,Z.cl,Z.nw,_,qdk _ _,_,_,rfl,pw,ws,_,rfl,o2,hw,rfl,by omega,f1,f3,fun fs' e p' H' hp' s' a'=>(by rw [Tx.rF_fT hw h.lt h.rise h.few] at e;cases e;exact q _ _ s' ⟨p',rfl,a'⟩),fun e=>(by rw [Tx.rF_fT hw h.lt h.rise h.few] at e;cases e)⟩
 . obtain ⟨f1,f2,f3⟩:=qmb lw9
   cases hR with
   | new h ha =>
     rw [if_pos rfl]
     exact ⟨_,rfl,w,rfl,ha,by omega,fun hw=>absurd hw h,fun _ H' s'=>q _ s'⟩
   | fam h =>
     rw [if_neg n1,if_pos rfl]
     exact ⟨dx,_,o1,qcE _ _ (by decide +kernel) (by decide +kernel),_,_,rfl,d,pk,ws,m,w,rfl,D,rfl,fun fs' e p hp=>(by rw [h] at e;cases e),fun _=>q _ (qas.refl _)⟩
   | name h =>
     rw [if_neg n2,if_neg n3,if_pos rfl]
     exact ⟨cD,dx,_,o1,Z.cl,Z.nw,_,qdk _ _,_,_,rfl,pw,ws,w,rfl,o2,h8,rfl,fun hm=>absurd hm h,fun _=>q _ (qas.refl _)⟩
   | set h =>
     rw [if_neg n4,if_neg n5,if_neg n6,if_pos rfl]
     exact ⟨cD,dx,_,o1,Z.cl,Z.nw,_,qdk _ _,_,_,rfl,pw,ws,_,rfl,o2,hw,rfl,by omega,f2,fun a' e=>(by rw [h] at e;cases e),fun _ H' s'=>q _ s'⟩
   | text h =>
     rw [if_neg n7,if_neg n8,if_neg n9,if_neg n10]
     exact ⟨cD,dx,_,o1,Z.cl,Z.nw,_,qdk _ _,_,_,rfl,pw,ws,_,rfl,o2,hw,rfl,by omega,f1,f3,fun fs' e=>(by rw [h] at e;cases e),fun _ H' s'=>q _ s'⟩
abbrev qgb:Stmt:=top 81
theorem qlU:qal ["many", "deed", "things"] ["many", "deed", "things"] (qab qgb):=fsc
inductive MkR (n:Nat):Str->List Th->List Nat->Prop
 | let {fs:List Nat}:MkR n "let" [.fm fs] fs
def qkF (K:W.Frag):Sp:=sp3 fun x y z H Q=>∃(n:Nat) (deed:Str) (p:Addr) (vs:List V) (ths:List Th) (gs:List Nat),x = .int (n:Nat)/\n<=8/\y = .str deed/\z = .ref p/\H p=some (.lst vs)/\qg7 H ths vs/\MkR n deed ths gs/\∀p' H',qas H H'->H' p'=some (.lst (nV gs))->Q (.ref p') H'
theorem qpB {f:Addr} {fd:FuncData} (F:Fun K "made" "made" qgb f fd) (T:Txt mg) {f_26:Addr} {fd_26:FuncData} (C_26:Cal P w K mg base "always_out" 1 ["family", "k"] qaP f_26 fd_26) {f_72:Addr} {fd_72:FuncData} (C_72:Cal P w K mg base "hits" 1 ["many", "family"] qaP f_72 fd_72) {f_67:Addr} {fd_67:FuncData} (C_67:Cal P w K mg base "rests" 1 ["many", "family"] qaP f_67 fd_67) {f_60:Addr} {fd_60:FuncData} (C_60:Cal P w K mg base "either" 1 ["one", "other"] qaP f_60 fd_60) {f_73:Addr} {fd_73:FuncData} (C_73:Cal P w K mg base "both" 1 ["one", "other"] qaP f_73 fd_73) {f_38:Addr} {fd_38:FuncData} (C_38:Cal P w K mg base "always_in" 1 ["family", "k"] qaP f_38 fd_38):qaM P w K mg base CX0 2 f fd ["many", "deed", "things"] (qkF K):=by
 have sc:=qlU
 refine F.ok qlU (fun vs H Q E h=>by obtain ⟨_,_,_,rfl,_⟩:=h;rfl) (fun cdv A outer s H vs Q E hr h=>?_)
 obtain ⟨x0,x1,x2,rfl,h⟩:=h
 refine ⟨_,(qac (qaA (qap (qaz (K:=K) rfl hr.units0) (pv 1) qaf (qat _)) (qag (qao (qaR (qcl (K:=K) rfl) (pv 2) qah (fun _ _=>rfl)))) qam)
   (qac (qaA (qap (qaz (K:=K) rfl hr.units0) (pv 1) qaf (qat _)) (qag (qao (pec C_72 hr (qaa (pv 0) (qaa (qaR (qcl (K:=K) rfl) (pv 2) qah (fun _ _=>rfl)) qad))))) qam)
   (qac (qaA (qap (qaz (K:=K) rfl hr.units0) (pv 1) qaf (qat _)) (qag (qao (pec C_67 hr (qaa (pv 0) (qaa (qaR (qcl (K:=K) rfl) (pv 2) qah (fun _ _=>rfl)) qad))))) qam)
   (qac (qaA (qap (qaz (K:=K) rfl hr.units0) (pv 1) qaf (qat _)) (qag (qao (pec C_60 hr (qaa (qaR (qcl (K:=K) rfl) (pv 2) qah (fun _ _=>rfl)) (qaa (qaR (qcl (K:=K) rfl) (pv 2) qah (fun _ _=>rfl)) qad))))) qam)
   (qac (qaA (qap (qaz (K:=K) rfl hr.units0) (pv 1) qaf (qat _)) (qag (qao (pec C_73 hr (qaa (qaR (qcl (K:=K) rfl) (pv 2) qah (fun _ _=>rfl)) (qaa (qaR (qcl (K:=K) rfl) (pv 2) qah (fun _ _=>rfl)) qad))))) qam)
   (qac (qaA (qap (qaz (K:=K) rfl hr.units0) (pv 1) qaf (qat _)) (qag (qao (pec C_38 hr (qaa (qaR (qcl (K:=K) rfl) (pv 2) qah (fun _ _=>rfl)) (qaa (qaR (qcl (K:=K) rfl) (pv 2) qah (fun _ _=>rfl)) qad))))) qam)
   (qag (qao (pec C_26 hr (qaa (qaR (qcl (K:=K) rfl) (pv 2) qah (fun _ _=>rfl)) (qaa (qaR (qcl (K:=K) rfl) (pv 2) qah (fun _ _=>rfl)) qad))))))))))),?_⟩
 refine rdg (σ':=[some x0,some x1,some x2]) rfl ?_
 obtain ⟨n,deed,p,vs,ths,gs,rfl,hn,rfl,rfl,f1,hv,hM,q⟩:=h
 walk_at "rd"
 have n_hits_let:¬(Str.ofString "hits" = Str.ofString "let"):=by decide +kernel
 have n_rests_let:¬(Str.ofString "rests" = Str.ofString "let"):=by decide +kernel
 have n_either_let:¬(Str.ofString "either" = Str.ofString "let"):=by decide +kernel
 have n_both_let:¬(Str.ofString "both" = Str.ofString "let"):=by decide +kernel
 have n_in_let:¬(Str.ofString "in" = Str.ofString "let"):=by decide +kernel
 have n_out_let:¬(Str.ofString "out" = Str.ofString "let"):=by decide +kernel
 have n_rests_hits:¬(Str.ofString "rests" = Str.ofString "hits"):=by decide +kernel
 have n_either_hits:¬(Str.ofString "either" = Str.ofString "hits"):=by decide +kernel
 have n_both_hits:¬(Str.ofString "both" = Str.ofString "hits"):=by decide +kernel
 have n_in_hits:¬(Str.ofString "in" = Str.ofString "hits"):=by decide +kernel
 have n_out_hits:¬(Str.ofString "out" = Str.ofString "hits"):=by decide +kernel
 have n_either_rests:¬(Str.ofString "either" = Str.ofString "rests"):=by decide +kernel
 have n_both_rests:¬(Str.ofString "both" = Str.ofString "rests"):=by decide +kernel
 have n_in_rests:¬(Str.ofString "in" = Str.ofString "rests"):=by decide +kernel
 have n_out_rests:¬(Str.ofString "out" = Str.ofString "rests"):=by decide +kernel
 have n_both_either:¬(Str.ofString "both" = Str.ofString "either"):=by decide +kernel
 have n_in_either:¬(Str.ofString "in" = Str.ofString "either"):=by decide +kernel
 have n_out_either:¬(Str.ofString "out" = Str.ofString "either"):=by decide +kernel
 have n_in_both:¬(Str.ofString "in" = Str.ofString "both"):=by decide +kernel
 have n_out_both:¬(Str.ofString "out" = Str.ofString "both"):=by decide +kernel
 have n_out_in:¬(Str.ofString "out" = Str.ofString "in"):=by decide +kernel
 have le:∀{b:Nat},b<2^n->b<2^8:=fun h=>yae h (yaf (by decide) hn)
 cases hM with
 | «let» =>
   obtain ⟨v0,us,rfl,⟨p0,rfl,b0⟩,hu⟩:=hv.cons
   obtain rfl:=hu.empty
   rw [if_pos rfl]
   exact qbg (SqL.of f1) rfl (q _ _ (qas.refl _) b0)
abbrev qb4:Stmt:=top 82
theorem qeT:qal ["words", "deed", "things", "many", "family"] ["words", "deed", "things"] (qab qb4):=fsc
inductive Asd (ws:List Str):Str->List Th->Nat->Prop
 | «show» {fs:List Nat}:Fml ws.length fs->Asd ws "show" [.fm fs] 0
 | cmp {fs:List Nat} {i:Nat}:Fml ws.length fs->Asd ws "compare" [.fm fs,.nu i,.nu i] 1
 | wts {fs:List Nat}:Fml ws.length fs->5<ws.length->Asd ws "weights" [.fm fs] 2
def qd4 (K:W.Frag) (cX cM:Addr):Sp:=qtD fun x y z H Q E=>∃(p:Addr) (ws:List Str) (deed:Str) (pt:Addr) (vs:List V) (ths:List Th) (k:Nat),x = .ref p/\H p=some (.lst (sV ws))/\Tx.Wds ws/\y = .str deed/\z = .ref pt/\H pt=some (.lst vs)/\qg7 H ths vs/\Asd ws deed ths k/\(k=0->∀fs,ths=[.fm fs]->∀H',qas H H'->Q (.str (Tx.fT ws fs)) H')/\(k=1->∀H',qas H H'->E (.ref cX) none H')/\(k=2->∀H',qas H H'->E (.ref cM) none H')
theorem qiW {f:Addr} {fd:FuncData} (F:Fun K "answered" "answered" qb4 f fd) (T:Txt mg) {cD aW cX cN cF cH cO cM:Addr} (Z:Xt P w K mg cD aW cX cN cF cH cO cM) {f_15:Addr} {fd_15:FuncData} (C_15:Cal P w K mg base "show_weights" 1 ["words", "told"] qaP f_15 fd_15) {f_19:Addr} {fd_19:FuncData} (C_19:Cal P w K mg base "show_family" 3 ["words", "family"] (qfA K) f_19 fd_19) {f_22:Addr} {fd_22:FuncData} (C_22:Cal P w K mg base "show_looked" 1 ["words", "told"] qaP f_22 fd_22) {f_01:Addr} {fd_01:FuncData} (C_01:Cal P w K mg base "show_word_and_sets" 1 ["words", "told"] qaP f_01 fd_01) {f_14:Addr} {fd_14:FuncData} (C_14:Cal P w K mg base "show_numbers" 1 ["numbers"] qaP f_14 fd_14) {f_28:Addr} {fd_28:FuncData} (C_28:Cal P w K mg base "show_ranks" 1 ["words", "told"] qaP f_28 fd_28) {f_29:Addr} {fd_29:FuncData} (C_29:qeu P w K mg base "by_weights" 2 ["many", "family"] (qs9 cM) f_29 fd_29) {f_71:Addr} {fd_71:FuncData} (C_71:Cal P w K mg base "says" 1 ["family", "one"] qaP f_71 fd_71) {f_61:Addr} {fd_61:FuncData} (C_61:Cal P w K mg base "looked" 1 ["family", "one"] qaP f_61 fd_61) {f_74:Addr} {fd_74:FuncData} (C_74:Cal P w K mg base "held" 1 ["many", "one", "other"] qaP f_74 fd_74) {f_03:Addr} {fd_03:FuncData} (C_03:qeu P w K mg base "compared_unlike" 2 ["many", "family", "x", "y"] (qqh cX) f_03 fd_03) {f_68:Addr} {fd_68:FuncData} (C_68:Cal P w K mg base "turns" 1 ["many", "family"] qaP f_68 fd_68) {f_69:Addr} {fd_69:FuncData} (C_69:Cal P w K mg base "ranks" 1 ["many", "family"] qaP f_69 fd_69):qaM P w K mg base (CX1 P w) 4 f fd ["words", "deed", "things"] (qd4 K cX cM):=by
 have sc:=qeT
 refine F.okX qeT (fun vs H Q E h=>by obtain ⟨_,_,_,rfl,_⟩:=h;rfl) (fun cdv A outer s H vs Q E hr h=>?_)
 obtain ⟨x0,x1,x2,rfl,h⟩:=h
 refine ⟨_,(qac (qax (i:=3) sc.nd rfl (Or.inl rfl) (qau (qaV (K:=K) rfl) (by rfl) T.n_len PySem.boot_len (qaa (pv 0) qad)))
   (qac (qax (i:=4) sc.nd rfl (Or.inl rfl) (qaR (qcl (K:=K) rfl) (pv 2) qah (fun _ _=>rfl)))
   (qac (qaA (qap (qaz (K:=K) rfl hr.units0) (pv 1) qaf (qat _)) (qag (qao (pec C_19 hr (qaa (pv 0) (qaa (pv 4) qad))))) qam)
   (qac (qaA (qap (qaz (K:=K) rfl hr.units0) (pv 1) qaf (qat _)) (qag (qao (qjy (qcg (pec C_71 hr (qaa (pv 4) (qaa (qaR (qcl (K:=K) rfl) (pv 2) qah (fun _ _=>rfl)) qad)))) qaf qaf))) qam)
   (qac (qaA (qap (qaz (K:=K) rfl hr.units0) (pv 1) qaf (qat _)) (qag (qao (pec C_22 hr (qaa (pv 0) (qaa (pec C_61 hr (qaa (pv 4) (qaa (qaR (qcl (K:=K) rfl) (pv 2) qah (fun _ _=>rfl)) qad))) qad))))) qam)
   (qac (qaA (qap (qaz (K:=K) rfl hr.units0) (pv 1) qaf (qat _)) (qag (qao (pec C_01 hr (qaa (pv 0) (qaa (pec C_74 hr (qaa (pv 3) (qaa (pv 4) (qaa (qaR (qcl (K:=K) rfl) (pv 2) qah (fun _ _=>rfl)) qad)))) qad))))) qam)
   (qac (qaA (qap (qaz (K:=K) rfl hr.units0) (pv 1) qaf (qat _)) (qag (qao (pec C_01 hr (qaa (pv 0) (qaa (qbI C_03 hr (by decide) (by rfl) qbF (qaa (pv 3) (qaa (pv 4) (qaa (qaR (qcl (K:=K) rfl) (pv 2) qah (fun _ _=>rfl)) (qaa (qaR (qcl (K:=K) rfl) (pv 2) qah (fun _ _=>rfl)) qad))))) qad))))) qam)
   (qac (qaA (qap (qaz (K:=K) rfl hr.units0) (pv 1) qaf (qat _)) (qag (qao (pec C_14 hr (qaa (pec C_68 hr (qaa (pv 3) (qaa (pv 4) qad))) qad)))) qam)
   (qac (qaA (qap (qaz (K:=K) rfl hr.units0) (pv 1) qaf (qat _)) (qag (qao (pec C_28 hr (qaa (pv 0) (qaa (pec C_69 hr (qaa (pv 3) (qaa (pv 4) qad))) qad))))) qam)
   (qag (qao (pec C_15 hr (qaa (pv 0) (qaa (qbI C_29 hr (by decide) (by rfl) qbF (qaa (pv 3) (qaa (pv 4) qad))) qad)))))))))))))),?_⟩
 refine rdg (σ':=[some x0,some x1,some x2,none,none]) rfl ?_
 obtain ⟨p,ws,deed,pt,vs,ths,k,rfl,f1,hw,rfl,rfl,f2,hv,hA,q0,q1,q2⟩:=h
 have h8:=hw.few
 walk_at "rd"
 refine ⟨_,.inl (SqL.of f1),?_⟩
 rw [qaK]
 cases hA with
 | «show» h =>
   obtain ⟨v0,us,rfl,⟨p0,rfl,b0⟩,hu⟩:=hv.cons
   obtain rfl:=hu.empty
   refine qbg (SqL.of f2) rfl ?_
   rw [if_pos rfl]
   exact ⟨_,_,rfl,p,p0,ws,_,rfl,f1,hw,rfl,b0,h.lt,h.few,q0 rfl _ rfl⟩
 | @cmp fs i h =>
   obtain ⟨v0,us,rfl,⟨p0,rfl,b0⟩,hu⟩:=hv.cons
   obtain ⟨v1,us',rfl,e1,hu'⟩:=hu.cons
   obtain ⟨v2,us'',rfl,e2,hu''⟩:=hu'.cons
   obtain rfl:=hu''.empty
   cases e1
   cases e2
   refine qbg (SqL.of f2) rfl ?_
   have n_show:¬(Str.ofString "compare" = Str.ofString "show"):=by decide +kernel
   have n_says:¬(Str.ofString "compare" = Str.ofString "says"):=by decide +kernel
   have n_look:¬(Str.ofString "compare" = Str.ofString "look"):=by decide +kernel
   have n_held:¬(Str.ofString "compare" = Str.ofString "held"):=by decide +kernel
   rw [if_neg n_show,if_neg n_says,if_neg n_look,if_neg n_held,if_pos rfl]
   exact qbg (SqL.of f2) rfl (qbg (SqL.of f2) rfl ⟨_,_,_,_,rfl,i,rfl,rfl,q1 rfl _ (qas.refl _)⟩)
 | @wts fs h h5 =>
   obtain ⟨v0,us,rfl,⟨p0,rfl,b0⟩,hu⟩:=hv.cons
   obtain rfl:=hu.empty
   refine qbg (SqL.of f2) rfl ?_
   have n_show:¬(Str.ofString "weights" = Str.ofString "show"):=by decide +kernel
   have n_says:¬(Str.ofString "weights" = Str.ofString "says"):=by decide +kernel
   have n_look:¬(Str.ofString "weights" = Str.ofString "look"):=by decide +kernel
   have n_held:¬(Str.ofString "weights" = Str.ofString "held"):=by decide +kernel
   have n_compare:¬(Str.ofString "weights" = Str.ofString "compare"):=by decide +kernel
   have n_turns:¬(Str.ofString "weights" = Str.ofString "turns"):=by decide +kernel
   have n_ranks:¬(Str.ofString "weights" = Str.ofString "ranks"):=by decide +kernel
   rw [if_neg n_show,if_neg n_says,if_neg n_look,if_neg n_held,if_neg n_compare,if_neg n_turns,if_neg n_ranks]
   exact ⟨_,_,rfl,ws.length,rfl,h5,q2 rfl _ (qas.refl _)⟩
abbrev qb5:Stmt:=qfs (top 78) 1
theorem qfI:qal ["self", "row", "parts", "deed", "things"] ["self", "row"] (qab qb5):=fsc
theorem qn4 {c:TT} {t u:TS} {D:qeY} {σ:L2.St} {H:Hp}:qjT (qqC c t qj5) u D σ H↔c σ H fun b H1=>if b=true then t { D with nx:=u D } σ H1 else u D σ H1:=Iff.rfl
theorem qgi {α:Type} {k:Str} {v:α}:∀{l:List (Str×α)},l.lookup k=some v->(k,v)∈l
 | [],h=>by cases h
 | (y,u)::l,h=>by
   rw [yew] at h
   by_cases e:k=y
   . subst e
     simp at h
     subst h
     exact ybb
   . rw [beq_eq_false_iff_ne.mpr e] at h
     exact ybe _ (qgi h)
theorem qke {d:Str} {ks:List Str} (h:wanted d=some ks):ks.length<=20:=by
 have:∀p∈qhL,p.2.length<=20:=by decide +kernel
 exact this (d,ks) (qgi h)
/-- what becomes of a row -/
inductive Res
 | put (n:Str) (gs:List Nat)
 | shw (fs:List Nat)
 | wr (c:K4)
 | mny
def qsI (ws:List Str) (m:List (Str×List Nat)) (z:Str):Res->Prop
 | .put n gs=>Prt z "let" [n,Tx.fT ws gs] ["new", "text"]/\(Tx.fT ws gs).length<=9000/\Tx.Wd n/\Fml ws.length gs/\(m.lookup n≠none\/m.length<20)
 | .shw fs=>∃n:Str,n.length<=900/\Prt z "show" [n] ["family"]/\m.lookup n=some fs/\Fml ws.length fs
 | .mny=>∃(n:Str) (fs:List Nat),n.length<=900/\Prt z "weights" [n] ["family"]/\m.lookup n=some fs/\Fml ws.length fs/\5<ws.length
 | .wr c=>qhc ws m z c
/-- the same,thing by thing -/
def qtH (ws:List Str) (m:List (Str×List Nat)) (deed:Str) (r ks:List Str) (ths:List Th):Res->Prop
 | .put n gs=>ths.length=ks.length/\deed = "let" /\ ks[0]?=some ("new" : Str)/\ths=[.nm n,.fm gs]/\Fml ws.length gs/\(m.lookup n≠none\/m.length<20)
 | .shw fs=>ths.length=ks.length/\deed = "show" /\ ks[0]?=some ("family" : Str)/\ths=[.fm fs]/\Fml ws.length fs
 | .mny=>ths.length=ks.length/\deed = "weights" /\ ks[0]?=some ("family" : Str)/\∃fs,ths=[.fm fs]/\Fml ws.length fs/\5<ws.length
 | .wr c=>(∃k w:Str,ks[ths.length]?=some k/\r[ths.length]?=some w/\Rf ws m k w c/\w.length<=900)\/ths.length=ks.length/\c = .tx/\deed = "compare" /\ ks[0]?=some ("family" : Str)/\∃(fs:List Nat) (i:Nat),ths=[.fm fs,.nu i,.nu i]/\Fml ws.length fs
theorem qsI.things {ws:List Str} {m:List (Str×List Nat)} {z:Str} {o:Res} (hw:Tx.Wds ws) (h:qsI ws m z o) (hd:o ≠ .wr .dd):∃(deed:Str) (r ks:List Str) (ths:List Th),Prt z deed r ks/\(∀w∈r,w.length<=9000)/\(∀(i:Nat) (k w:Str) (th:Th),ks[i]?=some k->r[i]?=some w->ths[i]?=some th->Thg ws m k w th)/\qtH ws m deed r ks ths o:=by
 have one:∀{k w:Str} {th:Th},Thg ws m k w th->∀(i:Nat) (k' w':Str) (t':Th),[k][i]?=some k'->[w][i]?=some w'->[th][i]?=some t'->Thg ws m k' w' t':=fun {k w th} ht i k' w' t' e1 e2 e3=>by
   cases i with
   | zero=>cases e1;cases e2;cases e3;exact ht
   | succ i=>cases e1
 have wrong:∀c,c ≠ .dd->(∃(deed:Str) (r ks:List Str),Prt z deed r ks/\(∀w∈r,w.length<=900)/\(Rfs ws m ks r c\/c = .tx/\deed = "compare" /\ ∃(f w:Str) (fs:List Nat),r=[f,w,w]/\m.lookup f=some fs/\Fml ws.length fs/\w∈ws))->∃(deed:Str) (r ks:List Str) (ths:List Th),Prt z deed r ks/\(∀w∈r,w.length<=9000)/\(∀(i:Nat) (k w:Str) (th:Th),ks[i]?=some k->r[i]?=some w->ths[i]?=some th->Thg ws m k w th)/\qtH ws m deed r ks ths (.wr c):=fun c hc ⟨deed,r,ks,hP,hL,h⟩=>by
   have hL9:∀w∈r,w.length<=9000:=fun w hw=>ybt (hL w hw) (by decide)
   rcases h with h | ⟨rfl,rfl,f,w,fs,rfl,hf,hF,hm⟩
   . obtain ⟨ths,k,w,h1,h2,h3,h4⟩:=h.at
     exact ⟨deed,r,ks,ths,hP,hL9,h1,.inl ⟨k,w,h2,h3,h4,hL w (ydk h3)⟩⟩
   . have ek:ks=[("family" : Str), "name", "name"]:=by
       have:=hP.kd
       have e:wanted ("compare" : Str)=some [("family" : Str), "name", "name"]:=by decide +kernel
       exact Option.some.inj (this.symm.trans e)
     subst ek
     refine ⟨_,_,_,[.fm fs,.nu (ws.idxOf w),.nu (ws.idxOf w)],hP,hL9,fun i k' w' t' e1 e2 e3=>?_,.inr ⟨rfl,rfl,rfl,rfl,fs,_,rfl,hF⟩⟩
     match i,e1,e2,e3 with
     | 0,e1,e2,e3=>cases e1;cases e2;cases e3;exact .fam hf
     | 1,e1,e2,e3=>cases e1;cases e2;cases e3;exact .name hm
     | 2,e1,e2,e3=>cases e1;cases e2;cases e3;exact .name hm
     | _+3,e1,_,_=>cases e1
 cases o with
 | put n gs =>
   obtain ⟨hP,hl,hn,hF,hm⟩:=h
   refine ⟨_,_,_,[.nm n,.fm gs],hP,fun w hw=>?_,fun i k' w' t' e1 e2 e3=>?_,rfl,rfl,rfl,rfl,hF,hm⟩
   . simp only [ybd,ycw,or_false] at hw
     rcases hw with rfl | rfl
     . have:=hn.2.1;omega
     . exact hl
   . match i,e1,e2,e3 with
     | 0,e1,e2,e3=>cases e1;cases e2;cases e3;exact .new hn
     | 1,e1,e2,e3=>cases e1;cases e2;cases e3;exact .text hF
     | _+2,e1,_,_=>cases e1
 | shw fs =>
   obtain ⟨n,hl,hP,hm,hF⟩:=h
   exact ⟨_,_,_,[.fm fs],hP,fun w hw=>by rw [ydi.mp hw];omega,one (.fam hm),rfl,rfl,rfl,rfl,hF⟩
 | mny =>
   obtain ⟨n,fs,hl,hP,hm,hF,h5⟩:=h
   exact ⟨_,_,_,[.fm fs],hP,fun w hw=>by rw [ydi.mp hw];omega,one (.fam hm),rfl,rfl,rfl,fs,rfl,hF,h5⟩
 | wr c =>
   cases c with
   | dd=>exact absurd rfl hd
   | fy=>exact wrong .fy (by decide) h
   | tx=>exact wrong .tx (by decide) h
def qnZ (cD cX cN cO cM:Addr):Sp:=qnX fun x y H Q E=>∃(d pk:Addr) (ws:List Str) (m:List (Str×List Nat)),x = .ref d/\qea cD H d pk ws m/\((∃(z:Str) (o:Res),y = .str z/\qsI ws m z o/\match o with
 | .put n gs=>∀H',SmB pk H H'->qea cD H' d pk ws (qg8 m n gs)->Q (.str "ok") H'
 | .shw fs=>∀H',qas H H'->Q (.str (Tx.fT ws fs)) H'
 | .wr c=>∀H',qas H H'->E (.ref (clK cX cN cO c)) none H'
 | .mny=>∀H',qas H H'->E (.ref cM) none H')\/∃t,qdZ H y=some t/\t ≠ "str" /\ E (.ref cO) none H)
theorem qir {f:Addr} {fd:FuncData} (F:Fun K "say" "Desk.say" qb5 f fd) (T:Txt mg) {cD aW cX cN cF cH cO cM:Addr} (Z:Xt P w K mg cD aW cX cN cF cH cO cM) {f_51:Addr} {fd_51:FuncData} (C_51:qeu P w K mg base "parts_of" 1 ["row"] (qe5 K cO) f_51 fd_51) {f_52:Addr} {fd_52:FuncData} (C_52:qeu P w K mg base "answered" 4 ["words", "deed", "things"] (qd4 K cX cM) f_52 fd_52) {f_10:Addr} {fd_10:FuncData} (C_10:qmE P w K mg base cD "thing_of" 5 ["self", "kind", "word"] (qig cD cX cN cO) f_10 fd_10) {f_02:Addr} {fd_02:FuncData} (C_02:qmE P w K mg base cD "look_for_room" 1 ["self", "name"] (qkW cD cF) f_02 fd_02) {f_75:Addr} {fd_75:FuncData} (C_75:Cal P w K mg base "made" 2 ["many", "deed", "things"] (qkF K) f_75 fd_75):qaM P w K mg base (CX1 P w) 6 f fd ["self", "row"] (qnZ cD cX cN cO cM):=by
 have sc:=qfI
 refine F.okX qfI (fun vs H Q E h=>by obtain ⟨_,_,rfl,_⟩:=h;rfl) (fun cdv A outer s H vs Q E hr h=>?_)
 obtain ⟨x0,x1,rfl,h⟩:=h
 refine ⟨_,(qac (qax (i:=2) sc.nd rfl (Or.inl rfl) (qbI C_51 hr (by decide) (by rfl) qbF (qaa (pv 1) qad)))
   (qac (qax (i:=3) sc.nd rfl (Or.inl rfl) (qaR (qcl (K:=K) rfl) (pv 2) qah (fun _ _=>rfl)))
   (qac (qgZ (i:=4) sc.nd rfl rfl (by rfl) (N:=["kind", "word", "self"]) (nt:=2) (caps:=[0]) qbt rfl (qoZ (K:=K) rfl (by rfl) T.n_zip (qaa (qiE (P:=P) (w:=w) (K:=K) rfl rfl rfl (qcj (v := .ref aW) (by rfl) Z.gW rfl) (pv 3) (fun _ _=>rfl)) (qaa (qc4 (qsy (K:=K) rfl) (pv 2) (qdq qah) qfJ) qad))) (fun _ _ _ _ _=>(qoD (n:=2) rfl (qeP (qaF (i:=0) (show List.Nodup (α:=Str) ["kind", "word", "self"] from by decide +kernel) rfl (Or.inl rfl)) (qeP (qaF (i:=1) (show List.Nodup (α:=Str) ["kind", "word", "self"] from by decide +kernel) rfl (Or.inl rfl)) qmw)))) qsp (fun _ _ _ _ _=>qb0) (fun _ _ _ _ _ _ _ tk=>(qcN (pv 2) Z.cl C_10 hr (by decide) tk.passes (qaa (pv 0) (qaa (pv 1) qad)))) qgv rfl rfl)
   (qac (qaA (qap (qaz (K:=K) rfl hr.units0) (qaR (qcl (K:=K) rfl) (qiE (P:=P) (w:=w) (K:=K) rfl rfl rfl (qcj (v := .ref aW) (by rfl) Z.gW rfl) (pv 3) (fun _ _=>rfl)) qah (fun _ _=>rfl)) qaf (qat _)) (qac (qbT (qcN (pv 0) Z.cl C_02 hr (by decide) qbF (qaa (qaR (qcl (K:=K) rfl) (pv 4) qah (fun _ _=>rfl)) qad)))
   (qac (qpW (qmL hr) (qdj (pv 0) rfl) (qaR (qcl (K:=K) rfl) (pv 4) qah (fun _ _=>rfl)) (pec C_75 hr (qaa (qau (qaV (K:=K) rfl) (by rfl) T.n_len PySem.boot_len (qaa (qdj (pv 0) rfl) qad)) (qaa (pv 3) (qaa (qc4 (qsy (K:=K) rfl) (pv 4) (qdq qah) qfJ) qad)))) rfl)
   (qag (qao qaf)))) qam)
   (qag (qao (qbI C_52 hr (by decide) (by rfl) qbF (qaa (qdj (pv 0) rfl) (qaa (pv 3) (qaa (pv 4) qad)))))))))),?_⟩
 refine rdg (σ':=[some x0,some x1,none,none,none]) rfl ?_
 obtain ⟨d,pk,ws,m,rfl,D,⟨z,o,rfl,hS,h⟩ | ⟨t,hk,hne,q⟩⟩:=h
 rotate_left
 . obtain ⟨dx,pw,o1,o2⟩:=D.ob
   walk_at "rd"
   exact ⟨_,rfl,.inr (.inr ⟨t,hk,hne,q⟩)⟩
 by_cases hdd:o = .wr .dd
 . subst hdd
   walk_at "rd"
   exact ⟨_,rfl,.inr (.inl ⟨z,rfl,hS,fun H' s'=>h H' s'⟩)⟩
 obtain ⟨deed,r,ks,ths,hP,hL,hT,ho⟩:=hS.things D.wd hdd
 obtain ⟨dx,pw,o1,o2⟩:=D.ob
 obtain ⟨kvs,kd1,kd2⟩:=Z.wn.kv
 obtain ⟨tw,vt,ht⟩:=kd2 deed ks hP.kd
 have lN:=hP.ln
 have l20:ks.length<=20:=qke hP.kd
 have hj:∀{i:Nat} {k:Str},ks[i]?=some k->i<ks.length:=fun e=>(ybr.mp e).1
 walk_at "rd"
 refine ⟨_,rfl,.inl ⟨z,deed,r,ks,rfl,hP,fun p1 H1 hp1 s1 a1=>?_⟩⟩
 refine qbg (SqL.of a1) (qcv (i:=0) rfl) ⟨kvs,Sum.inr deed,rfl,kd1,_,vt,p1,_,rfl,SqL.of a1,fun p2 hp2=>?_⟩
 rw [show (1:Int)=((1:Nat):Int) from rfl,qjx,show (sV (deed::r)).drop 1=sV r from rfl]
 generalize g2:upd H1 p2 _=G2
 have a2:=qaJ g2
 have s2:=s1.trans (qav g2 hp2)
 refine ⟨tw,p2,⟨rfl,rfl⟩,_,ht G2,_,SqL.of a2,qqI (xs:=sV ks) (ys:=sV r) (by rw [qaK,qaK,lN]) (fun i zs H3=>qas G2 H3/\i<=ths.length/\qg7 H3 (ths.take i) zs) ⟨qas.refl _,ybv _,qg7.nil⟩ (ybt (by rw [qaK];omega) (show 100000<=sizeLine by decide)) (fun i zs H3 hi h=>⟨ht _,SqL.of (h.1 _ _ a2),by rw [<-h.2.2.1,yee];omega⟩) (fun i x y zs H3 t hx hy h' hn3 R R' r1 r2=>?_) fun zs H3 h' p3 hp3=>?_⟩
 . obtain ⟨s3,hi,hv⟩:=h'
   rw [ydf] at hx hy
   cases ek:ks[i]? with
   | none=>rw [ek] at hx;cases hx
   | some k =>
   cases ew:r[i]? with
   | none=>rw [ew] at hy;cases hy
   | some w =>
   rw [ek] at hx
   rw [ew] at hy
   cases hx
   cases hy
   have s4:=qas.new (o := .tup [.str k,.str w]) hn3
   have D4:=((D.same s2).same s3).same s4
   have lw:=hL w (ydk ew)
   obtain ⟨dx4,pw4,o4,_⟩:=D4.ob
   (try walk_at "rd")
   refine ⟨_,SqT.of qai,rfl,_,_,rfl,_,_,rfl,rfl,dx4,_,o4,qcE _ _ (by decide +kernel) (by decide +kernel),_,_,_,rfl,d,pk,ws,m,k,w,rfl,D4,rfl,rfl,lw,?_⟩
   by_cases hlt:i<ths.length
   . have et:ths[i]?=some ths[i]:=ydc hlt
     refine .inl ⟨_,hT i k w _ ek ew et,fun v H5 s5 hv5=>r1 v H5 ⟨(s3.trans s4).trans s5,hlt,?_⟩⟩
     rw [yfj,et]
     exact ((hv.same s4).same s5).snoc hv5
   obtain rfl:i=ths.length:=by omega
   have hk:=hj ek
   have sA:=(s2.trans s3).trans s4
   cases o with
   | put n gs=>exact absurd ho.1 (by omega)
   | shw fs=>exact absurd ho.1 (by omega)
   | mny=>exact absurd ho.1 (by omega)
   | wr c =>
     rcases ho with ⟨k',w',e1,e2,e3,e4⟩ | ho
     . rw [ek] at e1
       rw [ew] at e2
       cases e1
       cases e2
       exact .inr ⟨c,e3,e4,fun H5 s5=>h H5 (sA.trans s5)⟩
     . exact absurd ho.1 (by omega)
 obtain ⟨s3,hi,hv⟩:=h'
 rw [qaK] at hi hv
 generalize g3:upd H3 p3 _=G3
 have a3:=qaJ g3
 have t3:=qav g3 hp3
 have s3:=(s2.trans s3).trans t3
 have hv:=hv.same t3
 have D3:=D.same s3
 clear g3 a1 a2 s1 g2 s2
 refine qn4.mpr ?_
 walk_at "rd"
 have full:∀(lT:ths.length=ks.length),qg7 G3 ths zs:=fun lT=>by
   rw [<-lT,ycb] at hv
   exact hv
 obtain ⟨dx3,pw3,o3,w3⟩:=D3.ob
 have nf:∀{x:Str},x = "family" -> ¬(Str.ofString "family" = Str.ofString "new"):=fun _=>by decide +kernel
 cases o with
 | wr c =>
   rcases ho with ⟨k',w',e1,_⟩ | ⟨lT,rfl,rfl,k0,fs,i,rfl,hF⟩
   . have:=hj e1
     omega
   . refine ⟨kvs,Sum.inr _,rfl,kd1,_,vt,qnf (ht _) (qcv (i:=0) k0) ⟨_,.inl ⟨rfl,rfl⟩,⟨false,congrArg V.bl (decide_eq_false fun e=>absurd (V.str.inj e) (by decide +kernel)),qfy ?_⟩⟩⟩
     exact ⟨cD,dx3,_,o3,Z.cl,Z.nw,_,qdk _ _,_,_,_,rfl,pw3,ws,_,p3,zs,_,_,rfl,w3,D.wd,rfl,rfl,a3,full lT,.cmp hF,fun e=>(by cases e),fun _ H4 s4=>h _ (s3.trans s4),fun e=>(by cases e)⟩
 | shw fs =>
   obtain ⟨lT,rfl,k0,rfl,hF⟩:=ho
   refine ⟨kvs,Sum.inr _,rfl,kd1,_,vt,qnf (ht _) (qcv (i:=0) k0) ⟨_,.inl ⟨rfl,rfl⟩,⟨false,congrArg V.bl (decide_eq_false fun e=>absurd (V.str.inj e) (by decide +kernel)),qfy ?_⟩⟩⟩
   exact ⟨cD,dx3,_,o3,Z.cl,Z.nw,_,qdk _ _,_,_,_,rfl,pw3,ws,_,p3,zs,_,_,rfl,w3,D.wd,rfl,rfl,a3,full lT,.show hF,fun _ fs' e H4 s4=>(by cases e;exact h _ (s3.trans s4)),fun e=>(by cases e),fun e=>(by cases e)⟩
 | mny =>
   obtain ⟨lT,rfl,k0,fs,rfl,hF,h5⟩:=ho
   refine ⟨kvs,Sum.inr _,rfl,kd1,_,vt,qnf (ht _) (qcv (i:=0) k0) ⟨_,.inl ⟨rfl,rfl⟩,⟨false,congrArg V.bl (decide_eq_false fun e=>absurd (V.str.inj e) (by decide +kernel)),qfy ?_⟩⟩⟩
   exact ⟨cD,dx3,_,o3,Z.cl,Z.nw,_,qdk _ _,_,_,_,rfl,pw3,ws,_,p3,zs,_,_,rfl,w3,D.wd,rfl,rfl,a3,full lT,.wts hF h5,fun e=>(by cases e),fun e=>(by cases e),fun _ H4 s4=>h _ (s3.trans s4)⟩
 | put n gs =>
   obtain ⟨lT,rfl,k0,rfl,hF,hm⟩:=ho
   have hv:=full lT
   refine ⟨kvs,Sum.inr _,rfl,kd1,_,vt,qnf (ht _) (qcv (i:=0) k0) ⟨_,.inl ⟨rfl,rfl⟩,⟨true,congrArg V.bl (decide_eq_true rfl),qha ?_⟩⟩⟩
   obtain ⟨v0,us,rfl,rfl,hu⟩:=hv.cons
   refine ⟨dx3,_,o3,qcE _ _ (by decide +kernel) (by decide +kernel),qbg (SqL.of a3) (qcG (j:=0) rfl) ⟨_,_,rfl,d,pk,ws,m,n,rfl,D3,rfl,fun _=>⟨cD,dx3,_,o3,Z.cl,Z.nw,_,qdk _ _,pw3,rfl,_,.inl (SqL.of w3),p3,_,rfl,SqL.of a3,fun p4 hp4=>?_⟩,fun e1 e2=>hm.elim (fun z=>absurd e1 z) (fun z=>by omega)⟩⟩
   rw [qjx,show (V.str n::us).drop 1=us from rfl,qaK]
   generalize g4:upd G3 p4 _=G4
   have a4:=qaJ g4
   have t4:=qav g4 hp4
   refine ⟨_,_,_,rfl,ws.length,_,p4,us,_,gs,rfl,D.wd.few,rfl,rfl,a4,hu.same t4,.let,fun p5 H5 s5 a5=>?_⟩
   have D5:=(D3.same t4).same s5
   obtain ⟨dx5,pw5,o5,w5⟩:=D5.ob
   obtain ⟨kv5,c5,k5⟩:=D5.dc
   refine ⟨cD,dx5,_,o5,Z.cl,Z.nk,_,qf8 _ _,qbg (SqL.of (s5 _ _ (t4 _ _ a3))) (qcG (j:=0) rfl) ⟨pk,rfl,_,qqB.k (k:=Sum.inr n) c5 (qiX (by have:=D5.ms;have:=k5.1;omega)),h _ (fun b o e hb=>by rw [qaq hb];exact s5 _ _ (t4 _ _ (s3 _ _ e))) ?_⟩⟩
   refine ⟨⟨dx5,pw5,by rw [qaq fun e=>by rw [e,c5] at o5;cases o5];exact o5,by rw [qaq fun e=>by rw [e,c5] at w5;cases w5];exact w5⟩,⟨_,qai,(k5.put a5).same fun p fs h=>by rw [qaq fun e=>by rw [e,c5] at h;cases h];exact h⟩,D.wd,fun x fs h=>?_,?_⟩
   . rw [qbh] at h
     by_cases e:x=n
     . rw [if_pos e] at h
       cases h
       exact hF
     . rw [if_neg e] at h
       exact D.fm x fs h
   . rw [qcF]
     have:=D.ms
     cases e:m.lookup n with
     | some gs=>simpa using this
     | none =>
       rcases hm with h | h
       . exact absurd e h
       . simp
         omega
abbrev qbM:Stmt:=top 92
theorem qej:qal ["_law_error", "_law_kinds"] ["_law_error"] (qab qbM):=fsc
def knd:K4->Str
 | .dd => "deed"
 | .fy => "family"
 | .tx => "text"
theorem ifl (b:Bool) (x:Str):(if b=true then [x] else []).length<=1:=by cases b<;>simp
theorem qsr:∀b1 b2 b3 b4:Bool,((((([]++if b1 then [("deed" : Str)] else [])++if b2 then [("family" : Str)] else [])++if b3 then [("text" : Str)] else [])++if b4 then [("many" : Str)] else []).map fun z:Str=>z.length).sum+(((([]++if b1 then [("deed" : Str)] else [])++if b2 then [("family" : Str)] else [])++if b3 then [("text" : Str)] else [])++if b4 then [("many" : Str)] else []).length*(Str.ofString " ").length<=16777216:=by decide +kernel
def qgM (cX cN cO cM:Addr):Sp:=sp1 fun x H Q=>∃(e C:Addr) (t:Str),x = .ref e/\H e=some (XO e C)/\(C=cO/\t = "deed" \/ C=cN/\t = "family" \/ C=cX/\t = "text" \/ C=cM/\t = "many")/\∀H',qas H H'->Q (.str t) H'
theorem qhZ {f:Addr} {fd:FuncData} (F:Fun K "_law_kind" "_law_kind" qbM f fd) (T:Txt mg) {cD aW cX cN cF cH cO cM:Addr} (Z:Xt P w K mg cD aW cX cN cF cH cO cM)  : qaM P w K mg base CX0 1 f fd ["_law_error"] (qgM cX cN cO cM):=by
 have sc:=qej
 refine F.ok qej (fun vs H Q E h=>by obtain ⟨_,rfl,_⟩:=h;rfl) (fun cdv A outer s H vs Q E hr h=>?_)
 obtain ⟨x0,rfl,h⟩:=h
 refine ⟨_,(qac (qax (i:=1) sc.nd rfl (Or.inl rfl) (qaw qad))
   (qac (qaA (qcg (qau (qdc (K:=K) (S:=XS cX cN cO cM) rfl Z.kit) (by rfl) T.n_isinstance PyProof.Rows.boot_isinstance (qaa (pv 0) (qaa (qcj (v := .ref cO) (by rfl) Z.gO rfl) qad)))) (qag (qbT (qb3 ygj ygk ygl qbZ (pv 1) (qaa qaf qad)))) qam)
   (qac (qaA (qcg (qau (qdc (K:=K) (S:=XS cX cN cO cM) rfl Z.kit) (by rfl) T.n_isinstance PyProof.Rows.boot_isinstance (qaa (pv 0) (qaa (qcj (v := .ref cN) (by rfl) Z.gN rfl) qad)))) (qag (qbT (qb3 ygj ygk ygl qbZ (pv 1) (qaa qaf qad)))) qam)
   (qac (qaA (qcg (qau (qdc (K:=K) (S:=XS cX cN cO cM) rfl Z.kit) (by rfl) T.n_isinstance PyProof.Rows.boot_isinstance (qaa (pv 0) (qaa (qcj (v := .ref cX) (by rfl) Z.gX rfl) qad)))) (qag (qbT (qb3 ygj ygk ygl qbZ (pv 1) (qaa qaf qad)))) qam)
   (qac (qaA (qcg (qau (qdc (K:=K) (S:=XS cX cN cO cM) rfl Z.kit) (by rfl) T.n_isinstance PyProof.Rows.boot_isinstance (qaa (pv 0) (qaa (qcj (v := .ref cM) (by rfl) Z.gM rfl) qad)))) (qag (qbT (qb3 ygj ygk ygl qbZ (pv 1) (qaa qaf qad)))) qam)
   (qac (qaA (PW.pt (ql3 (qcg (qau (qdc (K:=K) (S:=XS cX cN cO cM) rfl Z.kit) (by rfl) T.n_isinstance PyProof.Rows.boot_isinstance (qaa (pv 0) (qaa (qcj (v := .ref cF) (by rfl) Z.gF rfl) qad)))) (qhv (qdy (qcg (qau (qdc (K:=K) (S:=XS cX cN cO cM) rfl Z.kit) (by rfl) T.n_isinstance PyProof.Rows.boot_isinstance (qaa (pv 0) (qaa (qd3 (v := .ty "ValueError") (by rfl) T.n_ValueError PyProof.Rows.Boot.«ValueError» rfl) qad)))))))) (qag (qbT (qb3 ygj ygk ygl qbZ (pv 1) (qaa qaf qad)))) qam)
   (qag (qao (qb3 ygm ygn ygo (qcD (K:=K) rfl) qaf (qaa (pv 1) qad)))))))))),?_⟩
 refine rdg (σ':=[some x0,none]) rfl ?_
 obtain ⟨e,C,t,rfl,he,ht,q⟩:=h
 have hC:XS cX cN cO cM C:=by
   rcases ht with ⟨z,_⟩ | ⟨z,_⟩ | ⟨z,_⟩ | ⟨z,_⟩
   . exact .inr (.inr (.inl z))
   . exact .inr (.inl z)
   . exact .inl z
   . exact .inr (.inr (.inr z))
 obtain ⟨b1,b2,b3,b4,e1,e2,e3,e4,ej⟩:∃b1 b2 b3 b4:Bool,decide (C=cO)=b1/\decide (C=cN)=b2/\decide (C=cX)=b3/\decide (C=cM)=b4/\_root_.PySem.Txt.join " " ((if b1 then [("deed" : Str)] else [])++(if b2 then [("family" : Str)] else [])++(if b3 then [("text" : Str)] else [])++(if b4 then [("many" : Str)] else []))=t:=by
   refine ⟨_,_,_,_,rfl,rfl,rfl,rfl,?_⟩
   have n1:=Z.nXN
   have n2:=Z.nXO
   have n3:=Z.nXM
   have n4:=Z.nNO
   have n5:=Z.nNM
   have n6:=Z.nOM
   rcases ht with ⟨rfl,rfl⟩ | ⟨rfl,rfl⟩ | ⟨rfl,rfl⟩ | ⟨rfl,rfl⟩
   . rw [decide_eq_true rfl,decide_eq_false (Ne.symm n4),decide_eq_false (Ne.symm n2),decide_eq_false n6];rfl
   . rw [decide_eq_true rfl,decide_eq_false n4,decide_eq_false (Ne.symm n1),decide_eq_false n5];rfl
   . rw [decide_eq_true rfl,decide_eq_false n2,decide_eq_false n1,decide_eq_false n3];rfl
   . rw [decide_eq_true rfl,decide_eq_false (Ne.symm n6),decide_eq_false (Ne.symm n5),decide_eq_false (Ne.symm n3)];rfl
 have iO:=Z.iO C hC
 have iN:=Z.iN C hC
 have iX:=Z.iX C hC
 have iM:=Z.iM C hC
 rw [e1] at iO
 rw [e2] at iN
 rw [e3] at iX
 rw [e4] at iM
 clear e1 e2 e3 e4
 have i1:=ifl b1 "deed"
 have i2:=ifl b2 "family"
 have i3:=ifl b3 "text"
 refine qaI (fun σ' H'=>∃p:Addr,H p=none/\qas H H'/\H' p=some (.lst (sV []))/\σ'=[some (.ref e),some (.ref p)]) ?_ fun N hN=>?_
 rotate_left
 . (try walk_at "rd")
   exact ⟨qaH (by simp),fun p hp=>hN _ _ ⟨p,hp,qas.new hp,qai,rfl⟩⟩
 rintro σ' H1 ⟨p,hp,s1,a1,rfl⟩
 refine qaI (fun σ' H'=>qas H H'/\H' p=some (.lst (sV ([]++if b1 then [("deed" : Str)] else [])))/\σ'=[some (.ref e),some (.ref p)]) ?_ fun N hN=>?_
 rotate_left
 . (try walk_at "rd")
   refine ⟨C,hC,e,_,b1,rfl,s1 _ _ he,.inr (.inl ⟨cO,rfl,iO⟩),?_⟩
   cases b1 with
   | true=>exact ⟨true,rfl,qha ⟨.inl ⟨rfl,_,SqL.of a1⟩,p,_,_,rfl,rfl,a1,ybi (m:=4) (by simp [sV];try omega) (by decide),hN _ _ ⟨fun b o z=>(by rw [qaq (qay z hp)];exact s1 b o z),by rw [qai];simp [sV],rfl⟩⟩⟩
   | false=>exact ⟨false,rfl,qfy (hN _ _ ⟨s1,by rw [a1];simp,rfl⟩)⟩
 rintro σ' H2 ⟨s2,a2,rfl⟩
 refine qaI (fun σ' H'=>qas H H'/\H' p=some (.lst (sV (([]++if b1 then [("deed" : Str)] else [])++if b2 then [("family" : Str)] else [])))/\σ'=[some (.ref e),some (.ref p)]) ?_ fun N hN=>?_
 rotate_left
 . (try walk_at "rd")
   refine ⟨C,hC,e,_,b2,rfl,s2 _ _ he,.inr (.inl ⟨cN,rfl,iN⟩),?_⟩
   cases b2 with
   | true=>exact ⟨true,rfl,qha ⟨.inl ⟨rfl,_,SqL.of a2⟩,p,_,_,rfl,rfl,a2,ybi (m:=4) (by simp [sV];try omega) (by decide),hN _ _ ⟨fun b o z=>(by rw [qaq (qay z hp)];exact s2 b o z),by rw [qai];simp [sV],rfl⟩⟩⟩
   | false=>exact ⟨false,rfl,qfy (hN _ _ ⟨s2,by rw [a2];simp,rfl⟩)⟩
 rintro σ' H3 ⟨s3,a3,rfl⟩
 refine qaI (fun σ' H'=>qas H H'/\H' p=some (.lst (sV ((([]++if b1 then [("deed" : Str)] else [])++if b2 then [("family" : Str)] else [])++if b3 then [("text" : Str)] else [])))/\σ'=[some (.ref e),some (.ref p)]) ?_ fun N hN=>?_
 rotate_left
 . (try walk_at "rd")
   refine ⟨C,hC,e,_,b3,rfl,s3 _ _ he,.inr (.inl ⟨cX,rfl,iX⟩),?_⟩
   cases b3 with
   | true=>exact ⟨true,rfl,qha ⟨.inl ⟨rfl,_,SqL.of a3⟩,p,_,_,rfl,rfl,a3,ybi (m:=4) (by simp [sV];try omega) (by decide),hN _ _ ⟨fun b o z=>(by rw [qaq (qay z hp)];exact s3 b o z),by rw [qai];simp [sV],rfl⟩⟩⟩
   | false=>exact ⟨false,rfl,qfy (hN _ _ ⟨s3,by rw [a3];simp,rfl⟩)⟩
 rintro σ' H4 ⟨s4,a4,rfl⟩
 refine qaI (fun σ' H'=>qas H H'/\H' p=some (.lst (sV (((([]++if b1 then [("deed" : Str)] else [])++if b2 then [("family" : Str)] else [])++if b3 then [("text" : Str)] else [])++if b4 then [("many" : Str)] else [])))/\σ'=[some (.ref e),some (.ref p)]) ?_ fun N hN=>?_
 rotate_left
 . (try walk_at "rd")
   refine ⟨C,hC,e,_,b4,rfl,s4 _ _ he,.inr (.inl ⟨cM,rfl,iM⟩),?_⟩
   cases b4 with
   | true=>exact ⟨true,rfl,qha ⟨.inl ⟨rfl,_,SqL.of a4⟩,p,_,_,rfl,rfl,a4,ybi (m:=4) (by simp [sV];try omega) (by decide),hN _ _ ⟨fun b o z=>(by rw [qaq (qay z hp)];exact s4 b o z),by rw [qai];simp [sV],rfl⟩⟩⟩
   | false=>exact ⟨false,rfl,qfy (hN _ _ ⟨s4,by rw [a4];simp,rfl⟩)⟩
 rintro σ' H5 ⟨s5,a5,rfl⟩
 refine qaI (fun σ' H'=>H5=H'/\σ'=[some (.ref e),some (.ref p)]) ?_ fun N hN=>?_
 rotate_left
 . (try walk_at "rd")
   refine ⟨C,hC,e,_,false,rfl,s5 _ _ he,.inr (.inl ⟨cF,rfl,Z.iF C hC⟩),false,rfl,?_⟩
   rw [if_neg (by decide)]
   refine ⟨C,hC,e,_,true,rfl,s5 _ _ he,.inl ⟨"ValueError",rfl,Z.iV C hC⟩,true,rfl,?_⟩
   rw [if_neg (by decide)]
   exact hN _ _ ⟨rfl,rfl⟩
 rintro σ' H' ⟨rfl,rfl⟩
 (try walk_at "rd")
 refine ⟨rfl,_,p,_,rfl,rfl,SqL.of a5,?_,?_⟩
 . exact qsr b1 b2 b3 b4
 . rw [List.nil_append,ej]
   exact q _ s5
abbrev qbb:Stmt:=top 93
theorem qcU:qal ["_law_desk", "_law_row", "_law_found", "_law_error"] ["_law_desk", "_law_row"] (qab qbb):=fsc
def qlv (cD:Addr):Sp:=sp2 fun x y H Q=>∃(d pk:Addr) (ws:List Str) (m:List (Str×List Nat)) (t:Str),x = .ref d/\qea cD H d pk ws m/\((∃z:Str,y = .str z/\((∃c,qhc ws m z c/\t=knd c)\/t = "many" /\ qsI ws m z .mny))\/∃ty,qdZ H y=some ty/\ty ≠ "str" /\ t = "deed")/\∀H',qas H H'->Q (.str t) H'
theorem qff {f:Addr} {fd:FuncData} (F:Fun K "_law_refusal" "_law_refusal" qbb f fd) (T:Txt mg) {cD aW cX cN cF cH cO cM:Addr} (Z:Xt P w K mg cD aW cX cN cF cH cO cM) {f_42:Addr} {fd_42:FuncData} (C_42:Cal P w K mg base "_law_kind" 1 ["_law_error"] (qgM cX cN cO cM) f_42 fd_42) {f_53:Addr} {fd_53:FuncData} (C_53:qmE P w K mg base cD "say" 6 ["self", "row"] (qnZ cD cX cN cO cM) f_53 fd_53):qaM P w K mg base CX0 7 f fd ["_law_desk", "_law_row"] (qlv cD):=by
 have sc:=qcU
 refine F.ok qcU (fun vs H Q E h=>by obtain ⟨_,_,rfl,_⟩:=h;rfl) (fun cdv A outer s H vs Q E hr h=>?_)
 obtain ⟨x0,x1,rfl,h⟩:=h
 refine ⟨_,(qac (qax (i:=2) sc.nd rfl (Or.inl rfl) qi4)
   (qac (qmu (i:=3) (S:=XS cX cN cO cM) sc.nd rfl rfl rfl rfl (by rfl) Z.gH Z.xH Z.beH Z.suH
     (fun pins xe E hp=>(qag (qbT (qcN (pv 0) Z.cl C_53 hr (by decide) hp.passes (qaa (pv 1) qad)))))
     (fun pins e=>(qag (qax (i:=2) sc.nd rfl (Or.inl rfl) (pv 3)))))
   (qag (qao (pec C_42 hr (qaa (pv 2) qad)))))),?_⟩
 refine rdg (σ':=[some x0,some x1,none,none]) rfl ?_
 obtain ⟨d,pk,ws,m,t,rfl,D,hy,q⟩:=h
 obtain ⟨dx,pw,o1,_⟩:=D.ob
 refine qaI (fun σ' H'=>H=H'/\σ'=[some (.ref d),some x1,some .non,none]) ?_ fun N hN=>?_
 rotate_left
 . (try walk_at "rd")
   exact hN _ _ ⟨rfl,rfl⟩
 rintro σ' H' ⟨rfl,rfl⟩
 refine qaI (fun σ' H'=>∃(a0 a1:Option V) (e C:Addr),σ'=[a0,a1,some (.ref e),none]/\H' e=some (XO e C)/\(C=cO/\t = "deed" \/ C=cN/\t = "family" \/ C=cX/\t = "text" \/ C=cM/\t = "many")/\qas H H') ?_ fun N hN=>?_
 rotate_left
 . have fin:∀(C:Addr) (H1:Hp),XS cX cN cO cM C->(C=cO/\t = "deed" \/ C=cN/\t = "family" \/ C=cX/\t = "text" \/ C=cM/\t = "many")->qas H H1->∃C',(Value.ref C:Value) = .ref C'/\XS cX cN cO cM C'/\∀(e:Addr) (σ':L2.St),List.length σ'=4->H1 e=none->∃v,(List.set σ' 3 (some (V.ref e)))[3]?=some (some v)/\N (((List.set σ' 3 (some (V.ref e))).set 2 (some v)).set 3 none) (upd H1 e (XO e C')):=fun C H1 hC ht s1=>⟨C,rfl,hC,fun e σ' hl he=>by
     obtain ⟨a0,a1,a2,a3,rfl⟩:∃a0 a1 a2 a3,σ'=[a0,a1,a2,a3]:=by
       match σ',hl with
       | [a0,a1,a2,a3],_=>exact ⟨a0,a1,a2,a3,rfl⟩
     exact ⟨_,rfl,hN _ _ ⟨a0,a1,e,C,rfl,qai,ht,s1.trans (qas.new he)⟩⟩⟩
   unfold qnO
   (try walk_at "rd")
   refine ⟨dx,_,o1,qcE _ _ (by decide +kernel) (by decide +kernel),_,_,rfl,d,pk,ws,m,rfl,D,?_⟩
   rcases hy with ⟨z,rfl,⟨c,hW,rfl⟩ | ⟨rfl,hS⟩⟩ | ⟨ty,hk,hne,rfl⟩
   . refine .inl ⟨z,.wr c,rfl,hW,fun H1 s1=>fin _ H1 ?_ ?_ s1⟩
     . cases c with
       | dd=>exact .inr (.inr (.inl rfl))
       | fy=>exact .inr (.inl rfl)
       | tx=>exact .inl rfl
     . cases c with
       | dd=>exact .inl ⟨rfl,rfl⟩
       | fy=>exact .inr (.inl ⟨rfl,rfl⟩)
       | tx=>exact .inr (.inr (.inl ⟨rfl,rfl⟩))
   . exact .inl ⟨z,.mny,rfl,hS,fun H1 s1=>fin _ H1 (.inr (.inr (.inr rfl))) (.inr (.inr (.inr ⟨rfl,rfl⟩))) s1⟩
   . exact .inr ⟨ty,hk,hne,fin _ H (.inr (.inr (.inl rfl))) (.inl ⟨rfl,rfl⟩) (qas.refl _)⟩
 rintro σ' H1 ⟨a0,a1,e,C,rfl,he,ht,s1⟩
 (try walk_at "rd")
 exact ⟨_,rfl,e,C,t,rfl,he,ht,fun H2 s2=>q _ (s1.trans s2)⟩
abbrev qbx:Stmt:=top 94
theorem qdv:qal ["_law_found"] [] (qab qbx):=fsc
theorem qg3 {X:Cx} {i:Nat} {x:Str} {es:List Expr} {te:TE} {p pos pos':Pos} (hN:X.N.Nodup) (hi:X.N[i]?=some x) (hx:Loc X.env.scope x) (he:PE X (.List es p) te) (hf:X.fn x=true\/X.env.scope.names.lookup x=some .local:=by first | exact .inl rfl | exact .inr rfl | assumption):PS X (.Assign [.Name x pos'] (.List es p) pos) (qoh te (qey i)):=qax hN hi hx he rfl hf
theorem qa5 {X:Cx} {i:Nat} {x:Str} {a b:Expr} {o:Operator} {te:TE} {p pos pos':Pos} (hN:X.N.Nodup) (hi:X.N[i]?=some x) (hx:Loc X.env.scope x) (he:PE X (.BinOp a o b p) te) (hf:X.fn x=true\/X.env.scope.names.lookup x=some .local:=by first | exact .inl rfl | exact .inr rfl | assumption):PS X (.Assign [.Name x pos'] (.BinOp a o b p) pos) (qoh te (qey i)):=qax hN hi hx he rfl hf
theorem qdA {X:Cx} {te:TE} {es:List Expr} {t:TA} {l o r p} (ha:PE X (.BinOp l o r p) te) (hr:PA X es t):PA X (.BinOp l o r p::es) (qdo te t):=qaa ha hr
theorem qsA {X:Cx} {te:TE} {es:List Expr} {t:TA} {l r p} (ha:PE X (.Subscript l r p) te) (hr:PA X es t):PA X (.Subscript l r p::es) (qdo te t):=qaa ha hr
theorem qsB {X:Cx} {te:TE} {es:List Expr} {t:TA} {l o r p} (ha:PE X (.ListComp l o r p) te) (hr:PA X es t):PA X (.ListComp l o r p::es) (qdo te t):=qaa ha hr
theorem qaG {K:W.Frag} {H G:Hp} {a:Addr} {A B:List Str} {Q:VK} (hA:G a=some (.lst (sV A))) (s:qas H G) (hl:A.length+B.length<=1000) (q:∀l G',H l=none->qas H G'->G' l=some (.lst (sV (A++B)))->Q (.ref l) G') :
   (sV B).length<=sizeLine/\∀p,G p=none->qnj K (.ref a) (.ref p) (upd G p (.lst (sV B))) Q:=by
 refine ⟨qaH (by rw [qaK];omega),fun p hp=>?_⟩
 have s2:=qas.new (o := .lst (sV B)) hp
 refine ⟨a,p,sV A,sV B,rfl,rfl,SqL.of (s2 _ _ hA),SqL.of qai,ybt (by rw [qaK,qaK];exact hl) (show 1000<=sizeLine by decide),fun l hl'=>?_⟩
 exact q l _ (qaQ (s.trans s2) hl') ((s.trans s2).trans (qas.new hl')) (by rw [qai,sV,sV,sV,ycl])
def qiM:Sp:=sp0 fun H Q=>∀p H',H p=none->qas H H'->H' p=some (.lst (sV qo8))->Q (.ref p) H'
theorem qgs {f:Addr} {fd:FuncData} (F:Fun K "_law_deeds" "_law_deeds" qbx f fd) (T:Txt mg)  : qaM P w K mg base CX0 1 f fd [] qiM:=by
 have sc:=qdv
 refine F.ok qdv (fun vs H Q E h=>by obtain ⟨rfl,_⟩:=h;rfl) (fun cdv A outer s H vs Q E hr h=>?_)
 obtain ⟨rfl,h⟩:=h
 refine ⟨_,(qac (qg3 (i:=0) sc.nd rfl (Or.inl rfl) (qaw (qae qaf (qae qaf (qae qaf (qae qaf (qae qaf (qae qaf qad))))))))
   (qac (qa5 (i:=0) sc.nd rfl (Or.inl rfl) (qar (qaO (K:=K) rfl) (pv 0) (qaw (qae qaf (qae qaf (qae qaf (qae qaf (qae qaf (qae qaf qad)))))))))
   (qac (qa5 (i:=0) sc.nd rfl (Or.inl rfl) (qar (qaO (K:=K) rfl) (pv 0) (qaw (qae qaf (qae qaf (qae qaf (qae qaf qad)))))))
   (qac (qa5 (i:=0) sc.nd rfl (Or.inl rfl) (qar (qaO (K:=K) rfl) (pv 0) (qaw (qae qaf (qae qaf (qae qaf qad))))))
   (qac (qa5 (i:=0) sc.nd rfl (Or.inl rfl) (qar (qaO (K:=K) rfl) (pv 0) (qaw (qae qaf (qae qaf (qae qaf (qae qaf qad)))))))
   (qag (qao (qar (qaO (K:=K) rfl) (pv 0) (qaw (qae qaf (qae qaf (qae qaf (qae qaf qad))))))))))))),?_⟩
 refine rdg (σ':=[none]) rfl ?_
 have q:=h
 walk_at "rd"
 refine ⟨qaH (by simp),fun p0 hp0=>?_⟩
 refine qaG (A:=(["", " ", "shows a", "Show a", "show", "show a b"]:List Str)) (B:=(["show  a", " show a", "show a ", "let", "let c", "hits c"]:List Str)) qai (qas.new hp0) (by decide) fun l1 G1 h1 s1 a1=>?_
 refine qaG (A:=((["", " ", "shows a", "Show a", "show", "show a b"]:List Str)++(["show  a", " show a", "show a ", "let", "let c", "hits c"]:List Str))) (B:=(["hits c a b", "either c a", "both c a b a", "in c a"]:List Str)) a1 s1 (by decide) fun l2 G2 h2 s2 a2=>?_
 refine qaG (A:=(((["", " ", "shows a", "Show a", "show", "show a b"]:List Str)++(["show  a", " show a", "show a ", "let", "let c", "hits c"]:List Str))++(["hits c a b", "either c a", "both c a b a", "in c a"]:List Str))) (B:=(["out c a X Y", "says a", "look a X Y"]:List Str)) a2 s2 (by decide) fun l3 G3 h3 s3 a3=>?_
 refine qaG (A:=((((["", " ", "shows a", "Show a", "show", "show a b"]:List Str)++(["show  a", " show a", "show a ", "let", "let c", "hits c"]:List Str))++(["hits c a b", "either c a", "both c a b a", "in c a"]:List Str))++(["out c a X Y", "says a", "look a X Y"]:List Str))) (B:=(["held a", "held a b a", "compare a X", "compare a X Y X"]:List Str)) a3 s3 (by decide) fun l4 G4 h4 s4 a4=>?_
 refine qaG (A:=(((((["", " ", "shows a", "Show a", "show", "show a b"]:List Str)++(["show  a", " show a", "show a ", "let", "let c", "hits c"]:List Str))++(["hits c a b", "either c a", "both c a b a", "in c a"]:List Str))++(["out c a X Y", "says a", "look a X Y"]:List Str))++(["held a", "held a b a", "compare a X", "compare a X Y X"]:List Str))) (B:=(["turns", "turns a b", "ranks", "weights"]:List Str)) a4 s4 (by decide) fun l5 G5 h5 s5 a5=>?_
 exact q _ _ h5 s5 a5
abbrev qaW:Stmt:=top 95
theorem qcL:qal ["_law_found"] [] (qab qaW):=fsc
def ql4:Sp:=sp0 fun H Q=>∀p H',H p=none->qas H H'->H' p=some (.lst (sV qo2))->Q (.ref p) H'
theorem qeB {f:Addr} {fd:FuncData} (F:Fun K "_law_families" "_law_families" qaW f fd) (T:Txt mg)  : qaM P w K mg base CX0 1 f fd [] ql4:=by
 have sc:=qcL
 refine F.ok qcL (fun vs H Q E h=>by obtain ⟨rfl,_⟩:=h;rfl) (fun cdv A outer s H vs Q E hr h=>?_)
 obtain ⟨rfl,h⟩:=h
 refine ⟨_,(qac (qg3 (i:=0) sc.nd rfl (Or.inl rfl) (qaw (qae qaf (qae qaf (qae qaf (qae qaf qad))))))
   (qac (qa5 (i:=0) sc.nd rfl (Or.inl rfl) (qar (qaO (K:=K) rfl) (pv 0) (qaw (qae qaf (qae qaf (qae qaf (qae qaf qad)))))))
   (qac (qa5 (i:=0) sc.nd rfl (Or.inl rfl) (qar (qaO (K:=K) rfl) (pv 0) (qaw (qae qaf (qae qaf (qae qaf (qae qaf qad)))))))
   (qac (qa5 (i:=0) sc.nd rfl (Or.inl rfl) (qar (qaO (K:=K) rfl) (pv 0) (qaw (qae qaf (qae qaf (qae qaf qad))))))
   (qac (qa5 (i:=0) sc.nd rfl (Or.inl rfl) (qar (qaO (K:=K) rfl) (pv 0) (qaw (qae qaf (qae qaf (qae qaf qad))))))
   (qag (qao (qar (qaO (K:=K) rfl) (pv 0) (qaw (qae qaf (qae qaf (qae qaf (qae qaf (qae qaf qad)))))))))))))),?_⟩
 refine rdg (σ':=[none]) rfl ?_
 have q:=h
 walk_at "rd"
 refine ⟨qaH (by simp),fun p0 hp0=>?_⟩
 refine qaG (A:=(["show q", "hits c q", "either c a q", "either c q zz+"]:List Str)) (B:=(["both c q a", "in c q Q1", "out c q X", "says q Q1"]:List Str)) qai (qas.new hp0) (by decide) fun l1 G1 h1 s1 a1=>?_
 refine qaG (A:=((["show q", "hits c q", "either c a q", "either c q zz+"]:List Str)++(["both c q a", "in c q Q1", "out c q X", "says q Q1"]:List Str))) (B:=(["look q -+", "held a q", "held q a", "compare q X X"]:List Str)) a1 s1 (by decide) fun l2 G2 h2 s2 a2=>?_
 refine qaG (A:=(((["show q", "hits c q", "either c a q", "either c q zz+"]:List Str)++(["both c q a", "in c q Q1", "out c q X", "says q Q1"]:List Str))++(["look q -+", "held a q", "held q a", "compare q X X"]:List Str))) (B:=(["compare q Q1 X", "turns q", "ranks q"]:List Str)) a2 s2 (by decide) fun l3 G3 h3 s3 a3=>?_
 refine qaG (A:=((((["show q", "hits c q", "either c a q", "either c q zz+"]:List Str)++(["both c q a", "in c q Q1", "out c q X", "says q Q1"]:List Str))++(["look q -+", "held a q", "held q a", "compare q X X"]:List Str))++(["compare q Q1 X", "turns q", "ranks q"]:List Str))) (B:=(["show a\n", "turns b\n", "held a b\n"]:List Str)) a3 s3 (by decide) fun l4 G4 h4 s4 a4=>?_
 refine qaG (A:=(((((["show q", "hits c q", "either c a q", "either c q zz+"]:List Str)++(["both c q a", "in c q Q1", "out c q X", "says q Q1"]:List Str))++(["look q -+", "held a q", "held q a", "compare q X X"]:List Str))++(["compare q Q1 X", "turns q", "ranks q"]:List Str))++(["show a\n", "turns b\n", "held a b\n"]:List Str))) (B:=(["weights q", "show A", "show nine99", "rests c abcdefghi", "show none"]:List Str)) a4 s4 (by decide) fun l5 G5 h5 s5 a5=>?_
 exact q _ _ h5 s5 a5
abbrev qbB:Stmt:=top 96
theorem qdG:qal ["_law_found"] [] (qab qbB):=fsc
def qiI:Sp:=sp0 fun H Q=>∀p H',H p=none->qas H H'->H' p=some (.lst (sV qqa))->Q (.ref p) H'
theorem qgX {f:Addr} {fd:FuncData} (F:Fun K "_law_texts" "_law_texts" qbB f fd) (T:Txt mg)  : qaM P w K mg base CX0 1 f fd [] qiI:=by
 have sc:=qdG
 refine F.ok qdG (fun vs H Q E h=>by obtain ⟨rfl,_⟩:=h;rfl) (fun cdv A outer s H vs Q E hr h=>?_)
 obtain ⟨rfl,h⟩:=h
 refine ⟨_,(qac (qg3 (i:=0) sc.nd rfl (Or.inl rfl) (qaw (qae qaf (qae qaf (qae qaf (qae qaf qad))))))
   (qac (qa5 (i:=0) sc.nd rfl (Or.inl rfl) (qar (qaO (K:=K) rfl) (pv 0) (qaw (qae qaf (qae qaf (qae qaf (qae qaf qad)))))))
   (qac (qa5 (i:=0) sc.nd rfl (Or.inl rfl) (qar (qaO (K:=K) rfl) (pv 0) (qaw (qae qaf (qae qaf (qae qaf (qae qaf (qae qaf (qae qaf qad)))))))))
   (qac (qa5 (i:=0) sc.nd rfl (Or.inl rfl) (qar (qaO (K:=K) rfl) (pv 0) (qaw (qae qaf (qae qaf (qae qaf (qae qaf qad)))))))
   (qac (qa5 (i:=0) sc.nd rfl (Or.inl rfl) (qar (qaO (K:=K) rfl) (pv 0) (qaw (qae qaf (qae qaf (qae qaf qad))))))
   (qac (qa5 (i:=0) sc.nd rfl (Or.inl rfl) (qar (qaO (K:=K) rfl) (pv 0) (qaw (qae qaf (qae qaf (qae qaf qad))))))
   (qac (qa5 (i:=0) sc.nd rfl (Or.inl rfl) (qar (qaO (K:=K) rfl) (pv 0) (qaw (qae qaf (qae qaf (qae qaf qad))))))
   (qac (qa5 (i:=0) sc.nd rfl (Or.inl rfl) (qar (qaO (K:=K) rfl) (pv 0) (qaw (qae qaf (qae qaf (qae qaf (qae qaf qad)))))))
   (qac (qa5 (i:=0) sc.nd rfl (Or.inl rfl) (qar (qaO (K:=K) rfl) (pv 0) (qaw (qae qaf (qae qaf (qae qaf qad))))))
   (qag (qao (qar (qaO (K:=K) rfl) (pv 0) (qaw (qae qaf (qae qaf (qae qaf (qae qaf qad))))))))))))))))),?_⟩
 refine rdg (σ':=[none]) rfl ?_
 have q:=h
 walk_at "rd"
 refine ⟨qaH (by simp),fun p0 hp0=>?_⟩
 refine qaG (A:=(["hits C a", "hits abcdefghi q", "hits c1 q", "rests c+ a"]:List Str)) (B:=(["either - a q", "in C1 q q", "in c a Q1", "in c a X+Y"]:List Str)) qai (qas.new hp0) (by decide) fun l1 G1 h1 s1 a1=>?_
 refine qaG (A:=((["hits C a", "hits abcdefghi q", "hits c1 q", "rests c+ a"]:List Str)++(["either - a q", "in C1 q q", "in c a Q1", "in c a X+Y"]:List Str))) (B:=(["both C a a", "both c9 q a", "out C a X", "in C a X", "let c none\n", "says a X\n"]:List Str)) a1 s1 (by decide) fun l2 G2 h2 s2 a2=>?_
 refine qaG (A:=(((["hits C a", "hits abcdefghi q", "hits c1 q", "rests c+ a"]:List Str)++(["either - a q", "in C1 q q", "in c a Q1", "in c a X+Y"]:List Str))++(["both C a a", "both c9 q a", "out C a X", "in C a X", "let c none\n", "says a X\n"]:List Str))) (B:=(["out c b -", "says a Q1", "says a Y+X", "says a X+X"]:List Str)) a2 s2 (by decide) fun l3 G3 h3 s3 a3=>?_
 refine qaG (A:=((((["hits C a", "hits abcdefghi q", "hits c1 q", "rests c+ a"]:List Str)++(["either - a q", "in C1 q q", "in c a Q1", "in c a X+Y"]:List Str))++(["both C a a", "both c9 q a", "out C a X", "in C a X", "let c none\n", "says a X\n"]:List Str))++(["out c b -", "says a Q1", "says a Y+X", "says a X+X"]:List Str))) (B:=(["says a X+", "says a none", "look b +X"]:List Str)) a3 s3 (by decide) fun l4 G4 h4 s4 a4=>?_
 refine qaG (A:=(((((["hits C a", "hits abcdefghi q", "hits c1 q", "rests c+ a"]:List Str)++(["either - a q", "in C1 q q", "in c a Q1", "in c a X+Y"]:List Str))++(["both C a a", "both c9 q a", "out C a X", "in C a X", "let c none\n", "says a X\n"]:List Str))++(["out c b -", "says a Q1", "says a Y+X", "says a X+X"]:List Str))++(["says a X+", "says a none", "look b +X"]:List Str))) (B:=(["compare a X X", "compare a Q1 X", "compare a X Q1"]:List Str)) a4 s4 (by decide) fun l5 G5 h5 s5 a5=>?_
 refine qaG (A:=((((((["hits C a", "hits abcdefghi q", "hits c1 q", "rests c+ a"]:List Str)++(["either - a q", "in C1 q q", "in c a Q1", "in c a X+Y"]:List Str))++(["both C a a", "both c9 q a", "out C a X", "in C a X", "let c none\n", "says a X\n"]:List Str))++(["out c b -", "says a Q1", "says a Y+X", "says a X+X"]:List Str))++(["says a X+", "says a none", "look b +X"]:List Str))++(["compare a X X", "compare a Q1 X", "compare a X Q1"]:List Str))) (B:=(["compare b Y Y", "let c Q1", "let c X X"]:List Str)) a5 s5 (by decide) fun l6 G6 h6 s6 a6=>?_
 refine qaG (A:=(((((((["hits C a", "hits abcdefghi q", "hits c1 q", "rests c+ a"]:List Str)++(["either - a q", "in C1 q q", "in c a Q1", "in c a X+Y"]:List Str))++(["both C a a", "both c9 q a", "out C a X", "in C a X", "let c none\n", "says a X\n"]:List Str))++(["out c b -", "says a Q1", "says a Y+X", "says a X+X"]:List Str))++(["says a X+", "says a none", "look b +X"]:List Str))++(["compare a X X", "compare a Q1 X", "compare a X Q1"]:List Str))++(["compare b Y Y", "let c Q1", "let c X X"]:List Str))) (B:=(["let c X+Y X", "let c X -", "let c ", "let c none X"]:List Str)) a6 s6 (by decide) fun l7 G7 h7 s7 a7=>?_
 refine qaG (A:=((((((((["hits C a", "hits abcdefghi q", "hits c1 q", "rests c+ a"]:List Str)++(["either - a q", "in C1 q q", "in c a Q1", "in c a X+Y"]:List Str))++(["both C a a", "both c9 q a", "out C a X", "in C a X", "let c none\n", "says a X\n"]:List Str))++(["out c b -", "says a Q1", "says a Y+X", "says a X+X"]:List Str))++(["says a X+", "says a none", "look b +X"]:List Str))++(["compare a X X", "compare a Q1 X", "compare a X Q1"]:List Str))++(["compare b Y Y", "let c Q1", "let c X X"]:List Str))++(["let c X+Y X", "let c X -", "let c ", "let c none X"]:List Str))) (B:=(["let c X  X+Y", "let c X ", "let C none"]:List Str)) a7 s7 (by decide) fun l8 G8 h8 s8 a8=>?_
 refine qaG (A:=(((((((((["hits C a", "hits abcdefghi q", "hits c1 q", "rests c+ a"]:List Str)++(["either - a q", "in C1 q q", "in c a Q1", "in c a X+Y"]:List Str))++(["both C a a", "both c9 q a", "out C a X", "in C a X", "let c none\n", "says a X\n"]:List Str))++(["out c b -", "says a Q1", "says a Y+X", "says a X+X"]:List Str))++(["says a X+", "says a none", "look b +X"]:List Str))++(["compare a X X", "compare a Q1 X", "compare a X Q1"]:List Str))++(["compare b Y Y", "let c Q1", "let c X X"]:List Str))++(["let c X+Y X", "let c X -", "let c ", "let c none X"]:List Str))++(["let c X  X+Y", "let c X ", "let C none"]:List Str))) (B:=(["let  none", "let c - -", "let c X,Y", "let c X Y X+Y -"]:List Str)) a8 s8 (by decide) fun l9 G9 h9 s9 a9=>?_
 exact q _ _ h9 s9 a9
abbrev qbu:Stmt:=top 97
theorem qdQ:qal ["_law_words_here", "_law_cell_here", "_law_way", "_law_some", "_law_row"] ["_law_words_here", "_law_cell_here"] (qab qbu):=fsc
def qiK (K:W.Frag):Sp:=sp2 fun x y H Q=>∃(pw:Addr) (ws:List Str) (c:Int),x = .ref pw/\H pw=some (.lst (sV ws))/\Tx.Wds ws/\2<=ws.length/\y = .int c/\∀(t:Addr) (H':Hp) (z z0 t0:Str) (i:Nat) (u v:List Nat),H t=none->qas H H'->H' t=some (.tup [.str z,.str (knd (qlh i))])->t0∈qfW i->(z0=t0\/z0=qoc t0)->Tm.XY ws u v->z=Tm.stx (Tm.rn u v (Tx.sg z0))->Q (.ref t) H'
theorem qgS {f:Addr} {fd:FuncData} (F:Fun K "_law_wrong" "_law_wrong" qbu f fd) (T:Txt mg) {cD aW cX cN cF cH cO cM:Addr} (Z:Xt P w K mg cD aW cX cN cF cH cO cM) {f_44:Addr} {fd_44:FuncData} (C_44:Cal P w K mg base "_law_mix" 1 ["_law_cell_here", "_law_k"] qjS f_44 fd_44) {f_30:Addr} {fd_30:FuncData} (C_30:Cal P w K mg base "_law_deeds" 1 [] qiM f_30 fd_30) {f_11:Addr} {fd_11:FuncData} (C_11:Cal P w K mg base "_law_families" 1 [] ql4 f_11 fd_11) {f_31:Addr} {fd_31:FuncData} (C_31:Cal P w K mg base "_law_texts" 1 [] qiI f_31 fd_31):qaM P w K mg base CX0 2 f fd ["_law_words_here", "_law_cell_here"] (qiK K):=by
 have sc:=qdQ
 refine F.ok qdQ (fun vs H Q E h=>by obtain ⟨_,_,rfl,_⟩:=h;rfl) (fun cdv A outer s H vs Q E hr h=>?_)
 obtain ⟨x0,x1,rfl,h⟩:=h
 refine ⟨_,(qac (qax (i:=2) sc.nd rfl (Or.inl rfl) (qar qbf (pec C_44 hr (qaa (pv 1) (qaa qah qad))) qah))
   (qac (qax (i:=3) sc.nd rfl (Or.inl rfl) (qaR (qcl (K:=K) rfl) (qaw (qaa (qiT C_30 hr (by decide) (by rfl)) (qaa (qiT C_11 hr (by decide) (by rfl)) (qaa (qiT C_31 hr (by decide) (by rfl)) qad)))) (pv 2) (fun _ _=>rfl)))
   (qac (qax (i:=4) sc.nd rfl (Or.inl rfl) (qaR (qcl (K:=K) rfl) (pv 3) (qar qbf (pec C_44 hr (qaa (pv 1) (qaa qah qad))) (qau (qaV (K:=K) rfl) (by rfl) T.n_len PySem.boot_len (qaa (pv 3) qad))) (fun _ _=>rfl)))
   (qac (qaA (qap (qaz (K:=K) rfl hr.units0) (qar qbf (pec C_44 hr (qaa (pv 1) (qaa qah qad))) qah) qah (qat _)) (qag (qax (i:=4) sc.nd rfl (Or.inl rfl) (qb3 ygm ygu ygv (qnt Z.st1 Z.st2) (pv 4) (qaa qaf (qaa qaf (qaa qah qad)))))) qam)
   (qac (qax (i:=4) sc.nd rfl (Or.inl rfl) (qb3 ygm ygu ygv (qkp Z.st1 Z.st2) (qb3 ygm ygu ygv (qkp Z.st1 Z.st2) (pv 4) (qaa qaf (qaa (qaR (qcl (K:=K) rfl) (pv 0) qah (fun _ _=>rfl)) qad))) (qaa qaf (qaa (qaR (qcl (K:=K) rfl) (pv 0) qah (fun _ _=>rfl)) qad))))
   (qag (qao (qkV (qaa (pv 4) (qaa (qaR (qcl (K:=K) rfl) (qaw (qaa qaf (qaa qaf (qaa qaf qad)))) (pv 2) (fun _ _=>rfl)) qad)))))))))),?_⟩
 refine rdg (σ':=[some x0,some x1,none,none,none]) rfl ?_
 obtain ⟨pw,ws,c,rfl,f1,hw,h2,rfl,q⟩:=h
 have h8:=hw.few
 refine qaI (fun σ' H'=>∃i:Nat,i<3/\H=H'/\σ'=[some (.ref pw),some (.int c),some (.int i),none,none]) ?_ fun N hN=>?_
 rotate_left
 . (try walk_at "rd")
   exact ⟨_,_,rfl,c,61,rfl,rfl,by decide,_,_,rfl,rfl,(by show (0:Int)<3;decide),hN _ _ ⟨qa7 c 61%3,ydb _ (by decide),rfl,rfl⟩⟩
 rintro σ' H' ⟨i,hi,rfl,rfl⟩
 refine qaI (fun σ' H'=>∃p:Addr,qas H H'/\H' p=some (.lst (sV (qfW i)))/\σ'=[some (.ref pw),some (.int c),some (.int i),some (.ref p),none]) ?_ fun N hN=>?_
 rotate_left
 . (try walk_at "rd")
   refine ⟨rfl,fun p1 G1 hp1 s1 a1=>⟨rfl,fun p2 G2 hp2 s2 a2=>⟨rfl,fun p3 G3 hp3 s3 a3=>⟨qaH (by simp),fun p4 hp4=>?_⟩⟩⟩⟩
   have s4:=qas.new (o := .lst [.ref p1,.ref p2,.ref p3]) hp4
   have sA:=((s1.trans s2).trans s3).trans s4
   match i,hi with
   | 0,_=>exact qbg (SqL.of qai) (qcG (j:=0) rfl) (hN _ _ ⟨p1,sA,s4 _ _ (s3 _ _ (s2 _ _ a1)),rfl⟩)
   | 1,_=>exact qbg (SqL.of qai) (qcG (j:=1) rfl) (hN _ _ ⟨p2,sA,s4 _ _ (s3 _ _ a2),rfl⟩)
   | 2,_=>exact qbg (SqL.of qai) (qcG (j:=2) rfl) (hN _ _ ⟨p3,sA,s4 _ _ a3,rfl⟩)
 rintro σ' H1 ⟨p,s1,a1,rfl⟩
 obtain ⟨rp,rp2⟩:=qm0 i hi
 refine qaI (fun σ' H'=>∃t0∈qfW i,H1=H'/\σ'=[some (.ref pw),some (.int c),some (.int i),some (.ref p),some (.str t0)]) ?_ fun N hN=>?_
 rotate_left
 . (try walk_at "rd")
   refine ⟨_,_,rfl,c,62,rfl,rfl,by decide,_,.inl (SqL.of a1),_,_,rfl,rfl,by rw [qaK];omega,?_⟩
   rw [qaK]
   have hlt:qa7 c 62%(qfW i).length<(qfW i).length:=ydb _ rp
   exact qbg (SqL.of a1) (qcv (i:=qa7 c 62%(qfW i).length) (ydc hlt)) (hN _ _ ⟨_,yck hlt,rfl,rfl⟩)
 rintro σ' H' ⟨t0,ht,rfl,rfl⟩
 obtain ⟨l1,l2⟩:=qnb i hi t0 ht
 refine qaI (fun σ' H'=>∃z0:Str,(z0=t0\/z0=qoc t0)/\H1=H'/\σ'=[some (.ref pw),some (.int c),some (.int i),some (.ref p),some (.str z0)]) ?_ fun N hN=>?_
 rotate_left
 . (try walk_at "rd")
   refine ⟨_,_,rfl,c,63,rfl,rfl,by decide,_,_,rfl,rfl,(by show (0:Int)<2;decide),_,qlP.mpr rfl,_,rfl,qoC (fun _=>?_) fun _=>hN _ _ ⟨t0,.inl rfl,rfl,rfl⟩⟩
   have l2:(qof t0 (Str.ofString " c ") (Str.ofString " a ")).length<=40:=l2
   exact ⟨rfl,_,_,⟨rfl,rfl⟩,by omega,by decide +kernel,by omega,hN _ _ ⟨t0,.inl rfl,rfl,rfl⟩,hN _ _ ⟨_,.inr rfl,rfl,rfl⟩⟩
 rintro σ' H' ⟨z0,hz,rfl,rfl⟩
 have lz:z0.length<=40:=by rcases hz with rfl | rfl<;>assumption
 obtain ⟨w0,e0⟩:∃w0,ws[0]?=some w0:=⟨_,ydc (by omega)⟩
 obtain ⟨w1,e1⟩:∃w1,ws[1]?=some w1:=⟨_,ydc (by omega)⟩
 have d0:=(hw.wd w0 (ydk e0)).2.1
 have d1:=(hw.wd w1 (ydk e1)).2.1
 have r1:∀z:Str,(_root_.PySem.Txt.replace z "X" w0).length<=8*z.length:=fun z=>by rw [show ("X" : Str)=⟨#[88]⟩ by decide +kernel];exact qkJ d0
 have r2:∀z:Str,(_root_.PySem.Txt.replace z "Y" w1).length<=8*z.length:=fun z=>by rw [show ("Y" : Str)=⟨#[89]⟩ by decide +kernel];exact qkJ d1
 refine qaI (fun σ' H'=>∃(z:Str) (u v:List Nat),Tm.XY ws u v/\z=Tm.stx (Tm.rn u v (Tx.sg z0))/\H1=H'/\σ'=[some (.ref pw),some (.int c),some (.int i),some (.ref p),some (.str z)]) ?_ fun N hN=>?_
 rotate_left
 . (try walk_at "rd")
   have fin:∀r1 r2:Str,(r1=z0\/r1=_root_.PySem.Txt.replace z0 "X" w0)->(r2=r1\/r2=_root_.PySem.Txt.replace r1 "Y" w1)->N [some (.ref pw),some (.int c),some (.int i),some (.ref p),some (.str r2)] H1:=fun r1 r2 k1 k2=>by
     obtain ⟨u,v,hXY,e⟩:=qmV hw h2 e0 e1 k1 k2
     exact hN _ _ ⟨r2,u,v,hXY,e,rfl,rfl⟩
   have snd:∀r1:Str,r1.length<=400->(r1=z0\/r1=_root_.PySem.Txt.replace z0 "X" w0)->tyV K "str" (V.str r1) H1/\qsL K (V.ref pw) (V.int 1) H1 fun x H1=>∃x_3 x_4:Str,(Str.ofString "Y" = x_3/\x=V.str x_4)/\(x_3.length==0)=false/\r1.length<=400/\x_4.length<=200/\(_root_.PySem.Txt.replace r1 x_3 x_4).length<=100000/\N [some (.ref pw),some (.int c),some (.int i),some (.ref p),some (.str r1)] H1/\N [some (.ref pw),some (.int c),some (.int i),some (.ref p),some (.str (_root_.PySem.Txt.replace r1 x_3 x_4))] H1:=fun r1 hl k1 =>
     ⟨rfl,qbg (SqL.of (s1 _ _ f1)) (qcv (i:=1) e1) ⟨_,_,⟨rfl,rfl⟩,by decide +kernel,hl,by omega,by have:=r2 r1;omega,fin r1 r1 k1 (.inl rfl),fin r1 _ k1 (.inr rfl)⟩⟩
   have b1:=r1 z0
   exact ⟨rfl,qbg (SqL.of (s1 _ _ f1)) (qcv (i:=0) e0) ⟨_,_,⟨rfl,rfl⟩,by decide +kernel,by omega,by omega,by omega,snd z0 (by omega) (.inl rfl),snd _ (by omega) (.inr rfl)⟩⟩
 rintro σ' H' ⟨z,u,v,hXY,ez,rfl,rfl⟩
 (try walk_at "rd")
 refine ⟨qaH (by simp),fun p4 hp4=>?_⟩
 have s4:=qas.new (o := .lst (sV [("deed" : Str), "family", "text"])) hp4
 have go:∀o:Str,o=knd (qlh i)->[V.str z,V.str o].length<=sizeLine/\∀t,upd H1 p4 (.lst (sV [("deed" : Str), "family", "text"])) t=none->Q (V.ref t) (upd (upd H1 p4 (.lst (sV [("deed" : Str), "family", "text"]))) t (.tup [V.str z,V.str o])):=fun o ho=>⟨qaH (by simp),fun t ht0 =>
   q t _ z z0 t0 i u v (qaQ (s1.trans s4) ht0) ((s1.trans s4).trans (qas.new ht0)) (by rw [qai,ho]) ht hz hXY ez⟩
 match i,hi,go with
 | 0,_,go=>exact qbg (SqL.of qai) (qcG (j:=0) rfl) (go _ rfl)
 | 1,_,go=>exact qbg (SqL.of qai) (qcG (j:=1) rfl) (go _ rfl)
 | 2,_,go=>exact qbg (SqL.of qai) (qcG (j:=2) rfl) (go _ rfl)
abbrev qbc:Stmt:=top 98
theorem qc2:qal ["_law_text_here", "_law_found", "_law_error"] ["_law_text_here"] (qab qbc):=fsc
def qtQ (H:Hp) (v:V):Prop:=(∃z:Str,v = .str z/\qp4 z)\/∃t,qdZ H v=some t/\t ≠ "str"
def qgI:Sp:=sp1 fun x H Q=>qtQ H x/\∀H',qas H H'->Q (.bl true) H'
theorem qfE {f:Addr} {fd:FuncData} (F:Fun K "_law_no_desk" "_law_no_desk" qbc f fd) (T:Txt mg) {cD aW cX cN cF cH cO cM:Addr} (Z:Xt P w K mg cD aW cX cN cF cH cO cM) {f_09:Addr} {fd_09:FuncData} (C_09:qsG P w K mg base cD 3 ["self", "text"] (qi3 cD cX) f_09 fd_09) {f_42:Addr} {fd_42:FuncData} (C_42:Cal P w K mg base "_law_kind" 1 ["_law_error"] (qgM cX cN cO cM) f_42 fd_42):qaM P w K mg base CX0 5 f fd ["_law_text_here"] qgI:=by
 have sc:=qc2
 refine F.ok qc2 (fun vs H Q E h=>by obtain ⟨_,rfl,_⟩:=h;rfl) (fun cdv A outer s H vs Q E hr h=>?_)
 obtain ⟨x0,rfl,h⟩:=h
 refine ⟨_,(qac (qax (i:=1) sc.nd rfl (Or.inl rfl) qi4)
   (qac (qmu (i:=2) (S:=XS cX cN cO cM) sc.nd rfl rfl rfl rfl (by rfl) Z.gH Z.xH Z.beH Z.suH
     (fun pins xe E hp=>(qag (qbT (qlE C_09 hr (by decide) (by rfl) Z.gDesk hp.passes (qaa (pv 0) qad)))))
     (fun pins e=>(qag (qax (i:=1) sc.nd rfl (Or.inl rfl) (pv 2)))))
   (qag (qao (qgE (qaz (K:=K) rfl hr.units0) (pec C_42 hr (qaa (pv 1) qad)) qaf (qat _)))))),?_⟩
 refine rdg (σ':=[some x0,none,none]) rfl ?_
 obtain ⟨hb,q⟩:=h
 refine qaI (fun σ' H'=>H=H'/\σ'=[some x0,some .non,none]) ?_ fun N hN=>?_
 rotate_left
 . (try walk_at "rd")
   exact hN _ _ ⟨rfl,rfl⟩
 rintro σ' H' ⟨rfl,rfl⟩
 refine qaI (fun σ' H'=>∃(a0:Option V) (e:Addr),σ'=[a0,some (.ref e),none]/\H' e=some (XO e cX)/\qas H H') ?_ fun N hN=>?_
 rotate_left
 . have fin:∀H1:Hp,qas H H1->∃C',(Value.ref cX:Value) = .ref C'/\XS cX cN cO cM C'/\∀(e:Addr) (σ':L2.St),List.length σ'=3->H1 e=none->∃v,(List.set σ' 2 (some (V.ref e)))[2]?=some (some v)/\N (((List.set σ' 2 (some (V.ref e))).set 1 (some v)).set 2 none) (upd H1 e (XO e C')):=fun H1 s1=>⟨cX,rfl,.inl rfl,fun e σ' hl he=>by
     obtain ⟨a0,a1,a2,rfl⟩:∃a0 a1 a2,σ'=[a0,a1,a2]:=by
       match σ',hl with
       | [a0,a1,a2],_=>exact ⟨a0,a1,a2,rfl⟩
     exact ⟨_,rfl,hN _ _ ⟨a0,e,rfl,qai,s1.trans (qas.new he)⟩⟩⟩
   unfold qnO
   (try walk_at "rd")
   intro x dx hx hdx ne
   have sN:qas H (upd (upd H dx (.own x)) x (.ins cD dx [])):=fun b o z=>by rw [qaq (qay z hx),qaq (qay z hdx)];exact z
   refine ⟨_,_,rfl,x,dx,rfl,qai,?_⟩
   rcases hb with ⟨z,rfl,⟨ha,hl,hn⟩⟩ | ⟨t,hk,hne⟩
   . exact .inr (.inl ⟨z,rfl,ha,hl,hn,fun H1 s1=>fin H1 (sN.trans s1)⟩)
   . exact .inr (.inr ⟨t,qd2 sN hk,hne,fin _ sN⟩)
 rintro σ' H1 ⟨a0,e,rfl,he,s1⟩
 (try walk_at "rd")
 refine ⟨_,rfl,e,cX, "text",rfl,he,.inr (.inr (.inl ⟨rfl,rfl⟩)),fun H2 s2=>⟨_,.inl ⟨rfl,rfl⟩,?_⟩⟩
 rw [decide_eq_true rfl]
 exact q _ (s1.trans s2)
abbrev qaZ:Stmt:=top 99
theorem qcI:qal ["_law_words_here", "_law_found"] ["_law_words_here"] (qab qaZ):=fsc
def qfc (K:W.Frag):Sp:=sp1 fun x H Q=>∃(pw:Addr) (ws:List Str),x = .ref pw/\H pw=some (.lst (sV ws))/\Tx.Wds ws/\2<=ws.length/\∀(p:Addr) (H':Hp) (vs:List V),H p=none->qas H H'->H' p=some (.lst vs)->vs.length<=100->(∀v∈vs,qtQ H' v)->Q (.ref p) H'
theorem qeE {f:Addr} {fd:FuncData} (F:Fun K "_law_no_names" "_law_no_names" qaZ f fd) (T:Txt mg)  : qaM P w K mg base CX0 1 f fd ["_law_words_here"] (qfc K):=by
 have sc:=qcI
 refine F.ok qcI (fun vs H Q E h=>by obtain ⟨_,rfl,_⟩:=h;rfl) (fun cdv A outer s H vs Q E hr h=>?_)
 obtain ⟨x0,rfl,h⟩:=h
 apply Exists.intro
 apply And.intro
 . refine' qac ?_ ?_
   rotate_left 2
   . refine' (qg3 (i:=1) ?_ ?_ ?_ ?_ ?_)
     rotate_left
     . exact sc.nd
     . rfl
     . exact (Or.inl rfl)
     . refine' (qaw ?_)
       rotate_left
       refine' (qae ?_ ?_)
       rotate_left 2
       . exact qaf
       refine' (qae ?_ ?_)
       rotate_left 2
       . exact qaf
       refine' (qae ?_ ?_)
       rotate_left 2
       . exact qaf
       refine' (qae ?_ ?_)
       rotate_left 2
       . exact qaf
       refine' (qae ?_ ?_)
       rotate_left 2
       . exact qaf
       refine' (qae ?_ ?_)
       rotate_left 2
       . exact qaf
       refine' (qae ?_ ?_)
       rotate_left 2
       . exact qaf
       exact qad
     . exact .inr rfl
   refine' qac ?_ ?_
   rotate_left 2
   . refine' (qa5 (i:=1) ?_ ?_ ?_ ?_ ?_)
     rotate_left
     . exact sc.nd
     . rfl
     . exact (Or.inl rfl)
     . refine' (qar (qaO (K:=K) rfl) ?_ ?_)
       rotate_left 2
       . exact (pv 1)
       . refine' (qaw ?_)
         rotate_left
         refine' (qae ?_ ?_)
         rotate_left 2
         . exact qaf
         refine' (qae ?_ ?_)
         rotate_left 2
         . exact qaf
         refine' (qae ?_ ?_)
         rotate_left 2
         . exact qaf
         refine' (qae ?_ ?_)
         rotate_left 2
         . exact qaf
         refine' (qae ?_ ?_)
         rotate_left 2
         . exact qaf
         refine' (qae ?_ ?_)
         rotate_left 2
         . exact qaf
         exact qad
     . exact .inr rfl
   refine' qac ?_ ?_
   rotate_left 2
   . refine' (qa5 (i:=1) ?_ ?_ ?_ ?_ ?_)
     rotate_left
     . exact sc.nd
     . rfl
     . exact (Or.inl rfl)
     . refine' (qar (qaO (K:=K) rfl) ?_ ?_)
       rotate_left 2
       . exact (pv 1)
       . refine' (qaw ?_)
         rotate_left
         refine' (qdA ?_ ?_)
         rotate_left 2
         . refine' (qar qaY ?_ ?_)
           rotate_left 2
           . refine' (qar qaY ?_ ?_)
             rotate_left 2
             . exact (qar qaY (qar qaY (qaR (qcl (K:=K) rfl) (pv 0) qah (fun _ _=>rfl)) qaf) (qaR (qcl (K:=K) rfl) (pv 0) qah (fun _ _=>rfl)))
             . exact qaf
           . exact (qaR (qcl (K:=K) rfl) (pv 0) qah (fun _ _=>rfl))
         refine' (qdA ?_ ?_)
         rotate_left 2
         . exact (qar qaY (qar qaY (qaR (qcl (K:=K) rfl) (pv 0) qah (fun _ _=>rfl)) qaf) (qaR (qcl (K:=K) rfl) (pv 0) qah (fun _ _=>rfl)))
         exact qad
     . exact .inr rfl
   refine' qac ?_ ?_
   rotate_left 2
   . exact (qbT (qb3 ygj ygk ygl qbZ (pv 1) (qdA (qar qaY (qar qaY (qaR (qcl (K:=K) rfl) (pv 0) qah (fun _ _=>rfl)) qaf) (qaR (qcl (K:=K) rfl) (pv 0) qah (fun _ _=>rfl))) qad)))
   apply qag
   refine' (qao ?_)
   rotate_left
   refine' (qar (qaO (K:=K) rfl) ?_ ?_)
   rotate_left 2
   . exact (pv 1)
   . refine' (qaw ?_)
     rotate_left
     refine' (qae ?_ ?_)
     rotate_left 2
     . exact qi4
     refine' (qae ?_ ?_)
     rotate_left 2
     . exact qah
     refine' (qae ?_ ?_)
     rotate_left 2
     . exact qfX
     refine' (qjB ?_ ?_)
     rotate_left 2
     . exact (qaw (qae qaf qad))
     refine' (qjh ?_ ?_)
     rotate_left 2
     . exact (qkV (qae qaf (qae qaf qad)))
     refine' (qjt ?_ ?_)
     rotate_left 2
     . exact qg0
     refine' (qdA ?_ ?_)
     rotate_left 2
     . exact (qar qaY (qb3 ygm ygn ygo (qcD (K:=K) rfl) qaf (qaB (pv 0) qad)) qaf)
     exact qad
 refine rdg (σ':=[some x0,none]) rfl ?_
 obtain ⟨pw,ws,rfl,f1,hw,h2,q⟩:=h
 have h8:=hw.few
 obtain ⟨w0,e0⟩:∃w0,ws[0]?=some w0:=⟨_,ydc (by omega)⟩
 obtain ⟨w1,e1⟩:∃w1,ws[1]?=some w1:=⟨_,ydc (by omega)⟩
 have d0:=hw.wd w0 (ydk e0)
 have d1:=hw.wd w1 (ydk e1)
 have l0:=d0.2.1
 have l1:=d1.2.1
 have bs:1000<=sizeLine:=by decide
 have k1:(Str.ofString " ").length=1:=by decide +kernel
 have k2:(Str.ofString "  ").length=2:=by decide +kernel
 refine qaI (fun σ' H'=>∃p:Addr,H p=none/\qas H H'/\H' p=some (.lst (sV NM1))/\σ'=[some (.ref pw),some (.ref p)]) ?_ fun N hN=>?_
 rotate_left
 . (try walk_at "rd")
   exact ⟨qaH (by simp),fun p hp=>hN _ _ ⟨p,hp,qas.new hp,qai,rfl⟩⟩
 rintro σ' G1 ⟨p1,n1,s1,a1,rfl⟩
 refine qaI (fun σ' H'=>∃p:Addr,H p=none/\qas H H'/\H' p=some (.lst (sV (NM1++NM2)))/\σ'=[some (.ref pw),some (.ref p)]) ?_ fun N hN=>?_
 rotate_left
 . (try walk_at "rd")
   exact qaG (A:=NM1) (B:=NM2) a1 s1 (by decide) fun l G h s a=>hN _ _ ⟨l,h,s,a,rfl⟩
 rintro σ' G2 ⟨p2,n2,s2,a2,rfl⟩
 obtain ⟨L3,hL3⟩:∃L3:List Str,L3=NM1++NM2++[w0++Str.ofString " " ++ w1++Str.ofString " " ++ w0,w0++Str.ofString " " ++ w0]:=⟨_,rfl⟩
 refine qaI (fun σ' H'=>∃p:Addr,H p=none/\qas H H'/\H' p=some (.lst (sV L3))/\σ'=[some (.ref pw),some (.ref p)]) ?_ fun N hN=>?_
 rotate_left
 . (try walk_at "rd")
   have g:=SqL.of (K:=K) (s2 _ _ f1)
   refine qbg g (qcv (i:=0) e0) ⟨_,rfl,by omega,qbg g (qcv (i:=1) e1) ⟨_,rfl,by rw [Str.length_append];omega,by rw [Str.length_append,Str.length_append];omega,qbg g (qcv (i:=0) e0) ⟨_,rfl,by rw [Str.length_append,Str.length_append,Str.length_append];omega,qbg g (qcv (i:=0) e0) ⟨_,rfl,by omega,qbg g (qcv (i:=0) e0) ⟨_,rfl,by rw [Str.length_append];omega,?_⟩⟩⟩⟩⟩
   exact qaG (A:=NM1++NM2) (B:=[w0++Str.ofString " " ++ w1++Str.ofString " " ++ w0,w0++Str.ofString " " ++ w0]) a2 s2 (by simp [NM1,NM2]) fun l G h s a=>hN _ _ ⟨l,h,s,by rw [hL3];exact a,rfl⟩
 rintro σ' G3 ⟨p3,n3,s3,a3,rfl⟩
 have len3:L3.length=15:=by rw [hL3];simp [NM1,NM2]
 refine qaI (fun σ' H'=>qas H H'/\H' p3=some (.lst (sV (L3++[w0++Str.ofString "  " ++ w1])))/\σ'=[some (.ref pw),some (.ref p3)]) ?_ fun N hN=>?_
 rotate_left
 . (try walk_at "rd")
   have g:=SqL.of (K:=K) (s3 _ _ f1)
   refine ⟨qgJ a3,qbg g (qcv (i:=0) e0) ⟨_,rfl,by omega,qbg g (qcv (i:=1) e1) ⟨_,rfl,by rw [Str.length_append];omega,p3,_,_,rfl,rfl,a3,ybi (m:=20) (by rw [qaK];omega) (by decide),hN _ _ ⟨fun b o z=>by rw [qaq (qay z n3)];exact s3 b o z,by rw [qai];simp [sV],rfl⟩⟩⟩⟩
 rintro σ' G4 ⟨s4,a4,rfl⟩
 (try walk_at "rd")
 refine ⟨qaH (by simp),fun q1 hq1=>⟨qaH (by simp),fun q2 hq2=>fun q3 hq3=>?_⟩⟩
 have t1:=qas.new (o := .lst [V.str (Str.ofString "a")]) hq1
 have t2:=qas.new (o := .tup [V.str (Str.ofString "a"),V.str (Str.ofString "b")]) hq2
 have t3:=qas.new (o := .dK []) hq3
 have sA:=((s4.trans t1).trans t2).trans t3
 have aA:=t3 _ _ (t2 _ _ (t1 _ _ a4))
 have b1:=t3 _ _ (t2 _ _ (qai (H:=G4) (a:=q1) (o := .lst [V.str (Str.ofString "a")])))
 have b2:=t3 _ _ (qai (H:=upd G4 q1 (.lst [V.str (Str.ofString "a")])) (a:=q2) (o := .tup [V.str (Str.ofString "a"),V.str (Str.ofString "b")]))
 have b3:=qai (H:=upd (upd G4 q1 (.lst [V.str (Str.ofString "a")])) q2 (.tup [V.str (Str.ofString "a"),V.str (Str.ofString "b")])) (a:=q3) (o := .dK [])
 generalize upd (upd (upd G4 q1 (.lst [V.str (Str.ofString "a")])) q2 (.tup [V.str (Str.ofString "a"),V.str (Str.ofString "b")])) q3 (.dK [])=G5 at *
 have z4:=que hw (fun z=>by rw [z] at h2;exact absurd h2 (by decide))
 have lz:(_root_.PySem.Txt.join (Str.ofString " ") ws).length+(Str.ofString " ").length<=900:=by
   have:=z4.2.1
   rw [Str.length_append] at this
   exact this
 refine ⟨rfl,_,pw,ws,rfl,rfl,SqL.of (sA _ _ f1),qbX (M:=8) (N:=8) (fun y hy=>(hw.wd y hy).2.1) h8 (by omega) (by decide),_,rfl,by omega,qaH (by simp),fun q4 hq4=>?_⟩
 have t4:=qas.new (o := .lst [V.non,V.int 5,V.bl true,V.ref q1,V.ref q2,V.ref q3,V.str (_root_.PySem.Txt.join (Str.ofString " ") ws++Str.ofString " ")]) hq4
 refine ⟨p3,q4,_,_,rfl,rfl,SqL.of (t4 _ _ aA),SqL.of qai,ybt (m:=100) (by rw [qaK,ycm,len3];simp) (by decide),fun q5 hq5=>?_⟩
 refine q q5 _ _ (qaQ (sA.trans t4) hq5) ((sA.trans t4).trans (qas.new hq5)) qai (by rw [ycm,qaK,ycm,len3];simp) fun v hv=>?_
 have t5:=t4.trans (qas.new (o := .lst (sV (L3++[w0++Str.ofString "  " ++ w1])++[V.non,V.int 5,V.bl true,V.ref q1,V.ref q2,V.ref q3,V.str (_root_.PySem.Txt.join (Str.ofString " ") ws++Str.ofString " ")])) hq5)
 rcases yat.mp hv with hv | hv
 . obtain ⟨z,hz,rfl⟩:=ybn.mp hv
   refine .inl ⟨z,rfl,?_⟩
   rcases yat.mp hz with hz | hz
   . rw [hL3] at hz
     rcases yat.mp hz with hz | hz
     . exact qpb (qsf z hz)
     . simp only [ybd,ycw,or_false] at hz
       rcases hz with rfl | rfl
       . exact qt3 d0 d1
       . exact qt9 d0
   . rw [ydi.mp hz]
     exact qtV d0 d1
 . simp only [ybd,ycw,or_false] at hv
   rcases hv with rfl | rfl | rfl | rfl | rfl | rfl | rfl
   . exact .inr ⟨_,rfl,by decide⟩
   . exact .inr ⟨_,rfl,by decide⟩
   . exact .inr ⟨_,rfl,by decide⟩
   . exact .inr ⟨"list",qd2 t5 (by simp [qdZ,b1]),by decide⟩
   . exact .inr ⟨"tuple",qd2 t5 (by simp [qdZ,b2]),by decide⟩
   . exact .inr ⟨"dict",qd2 t5 (by simp [qdZ,b3]),by decide⟩
   . exact .inl ⟨_,rfl,z4⟩
abbrev qgT:Stmt:=top 100
theorem qoI:qal ["_law_script", "_law_many", "_law_words_here", "_law_desk", "_law_one", "_law_cell_here", "_law_row", "_law_owed", "_law_thing"] ["_law_script"] (qab qgT):=fsc
theorem qeX (a b c:Str):a++b++c=a++(b++c):=congrArg Str.mk ydp
theorem qmd:∀(ds:List Str) (w:Str),pre ds w=pre ds Str.empty++w
 | [],w=>by
   show w=(⟨#[]++w.cps⟩:Str)
   rw [Array.empty_append]
 | d::ds,w=>by
   show d ++ " " ++ pre ds w=(d ++ " " ++ pre ds Str.empty)++w
   rw [qmd ds w,qeX,qeX,qeX]
theorem qqj {x:V} {xs:List V} {lo hi:Option Int} (h:x∈qkh xs lo hi):x∈xs:=List.mem_of_mem_drop (ygi h)
theorem qpQ (xs:List V) (lo hi:Option Int):(qkh xs lo hi).length<=xs.length:=by
 show (List.take _ (List.drop _ xs)).length<=_
 rw [yee,ybz]
 omega
theorem qpR {ws:List Str} {A:List Nat} {z n:Str} (hw:Tx.Wds ws) (hA:Fml ws.length A) (hz:z=pre ["let",n] Str.empty) (hn:32∉Tx.sg n) (hs:z.length<=100):Prt (z++Tx.fT ws A) "let" [n,Tx.fT ws A] ["new", "text"]:=by
 have e:z++Tx.fT ws A=pre ["let",n] (Tx.fT ws A):=by rw [qmd,hz]
 rw [e]
 refine qpO hn ?_
 rw [<-e,Str.length_append]
 have:=Tx.fT_len hw hA.lt (by have:=hA.few;omega)
 omega
theorem qmk {K:W.Frag} {pk a:Addr} {H H':Hp} {xs:List V} {kvs:List (Key×V)} (s:SmB pk H H') (c:H pk=some (.dK kvs)) (h:SqL K H a xs):SqL K H' a xs:=by
 rcases h with (e | ⟨o,e⟩) | h
 . exact .inl (.inl (s _ _ e fun z=>by rw [z,c] at e;cases e))
 . exact .inl (.inr ⟨o,s _ _ e fun z=>by rw [z,c] at e;cases e⟩)
 . exact .inr h
theorem qi0 {ws:List Str}:Tx.fT ws [0]=("-" : Str):=by rw [Tx.fT_one];rfl
theorem qtb {ws:List Str}:Prt (Str.ofString "let b -") "let" ["b",Tx.fT ws [0]] ["new", "text"]:=by
 rw [qi0]
 exact ⟨by decide +kernel,by decide +kernel,by decide +kernel,rfl,by decide +kernel⟩
theorem qr7:Prt (Str.ofString "show a") "show" ["a"] ["family"]:=⟨by decide +kernel,by decide +kernel,by decide +kernel,rfl,by decide +kernel⟩
theorem qrN:Prt (Str.ofString "show b") "show" ["b"] ["family"]:=⟨by decide +kernel,by decide +kernel,by decide +kernel,rfl,by decide +kernel⟩
theorem qrm:Prt (Str.ofString "weights b") "weights" ["b"] ["family"]:=⟨by decide +kernel,by decide +kernel,by decide +kernel,rfl,by decide +kernel⟩
theorem qo1 {ws:List Str} {m:List (Str×List Nat)} (h:m.lookup ("c" : Str)=none):qhc ws m (Str.ofString "turns c") .fy :=
 ⟨"turns",["c"],["family"],⟨by decide +kernel,by decide +kernel,by decide +kernel,rfl,by decide +kernel⟩,(by decide +kernel),.inl (.here (.fam h))⟩
def qme (K:W.Frag):Sp:=sp1 fun x H Q=>∃(a:Addr) (ns:List Int),x = .ref a/\SqL K H a (ns.map V.int)/\ns.length<=63/\∀H',Q (.bl true) H'
theorem qrY {f:Addr} {fd:FuncData} (F:Fun K "law" "law" qgT f fd) (T:Txt mg) {cD aW cX cN cF cH cO cM:Addr} (Z:Xt P w K mg cD aW cX cN cF cH cO cM) {f_24:Addr} {fd_24:FuncData} (C_24:Cal P w K mg base "_law_words" 2 ["_law_cell_here", "_law_count"] (qfD K) f_24 fd_24) {f_09:Addr} {fd_09:FuncData} (C_09:qsG P w K mg base cD 3 ["self", "text"] (qi3 cD cX) f_09 fd_09) {f_18:Addr} {fd_18:FuncData} (C_18:Cal P w K mg base "_law_family" 2 ["_law_script", "_law_start", "_law_many", "_law_most"] (qgp K) f_18 fd_18) {f_53:Addr} {fd_53:FuncData} (C_53:qmE P w K mg base cD "say" 6 ["self", "row"] (qnZ cD cX cN cO cM) f_53 fd_53) {f_12:Addr} {fd_12:FuncData} (C_12:Cal P w K mg base "_law_no_names" 1 ["_law_words_here"] (qfc K) f_12 fd_12) {f_33:Addr} {fd_33:FuncData} (C_33:Cal P w K mg base "_law_cell" 1 ["_law_script", "_law_k"] (qjv K) f_33 fd_33) {f_32:Addr} {fd_32:FuncData} (C_32:Cal P w K mg base "_law_wrong" 2 ["_law_words_here", "_law_cell_here"] (qiK K) f_32 fd_32) {f_16:Addr} {fd_16:FuncData} (C_16:Cal P w K mg base "_law_refusal" 7 ["_law_desk", "_law_row"] (qlv cD) f_16 fd_16) {f_44:Addr} {fd_44:FuncData} (C_44:Cal P w K mg base "_law_mix" 1 ["_law_cell_here", "_law_k"] qjS f_44 fd_44) {f_35:Addr} {fd_35:FuncData} (C_35:Cal P w K mg base "_law_text" 2 ["_law_words_here", "_law_family_here"] (qie K) f_35 fd_35) {f_17:Addr} {fd_17:FuncData} (C_17:Cal P w K mg base "_law_no_desk" 5 ["_law_text_here"] qgI f_17 fd_17):qaM P w K mg base CX0 8 f fd ["_law_script"] (qme K):=by
 have sc:=qoI
 refine F.ok qoI (fun vs H Q E h=>by obtain ⟨_,rfl,_⟩:=h;rfl) (fun cdv A outer s H vs Q E hr h=>?_)
 obtain ⟨x0,rfl,h⟩:=h
 apply Exists.intro
 apply And.intro
 . refine' qac ?_ ?_
   rotate_left 2
   . exact (qa5 (i:=1) sc.nd rfl (Or.inl rfl) (qar qby qah (qar qbf (pec C_44 hr (qdP (pec C_33 hr (qaB (pv 0) (qae qah qad))) (qae qah qad))) qah)))
   refine' qac ?_ ?_
   rotate_left 2
   . exact (qax (i:=2) sc.nd rfl (Or.inl rfl) (pec C_24 hr (qdP (pec C_33 hr (qaB (pv 0) (qae qah qad))) (qaB (pv 1) qad))))
   refine' qac ?_ ?_
   rotate_left 2
   . exact (qax (i:=3) sc.nd rfl (Or.inl rfl) (qlE C_09 hr (by decide) (by rfl) Z.gDesk qcS (qdP (qb3 ygm ygn ygo (qcD (K:=K) rfl) qaf (qaB (pv 2) qad)) qad)))
   refine' qac ?_ ?_
   rotate_left 2
   . exact (qax (i:=4) sc.nd rfl (Or.inl rfl) (pec C_18 hr (qaB (pv 0) (qae qah (qaB (pv 1) (qae qah qad))))))
   refine' qac ?_ ?_
   rotate_left 2
   . exact (qbT (qcN (pv 3) Z.cl C_53 hr (by decide) qcS (qdA (qar qaY qaf (pec C_35 hr (qaB (pv 2) (qaB (pv 4) qad)))) qad)))
   refine' qac ?_ ?_
   rotate_left 2
   . exact (qbT (qcN (pv 3) Z.cl C_53 hr (by decide) qcS (qae qaf qad)))
   refine' qac ?_ ?_
   rotate_left 2
   . exact (qdT PassesOwn.never rfl (qb1 (qar (qaO (K:=K) rfl) (qaw (qdP (pec C_33 hr (qaB (pv 0) (qae qah qad))) (qdP (pec C_33 hr (qaB (pv 0) (qae qah qad))) qad))) (qc4 (qsy (K:=K) rfl) (pv 0) (qdq qah) (qdq qah)))) (qaF (i:=5) sc.nd rfl (Or.inl rfl)) (qac (qor (pec C_32 hr (qaB (pv 2) (qaB (pv 5) qad))) (qoD (n:=2) rfl (qeP (qaF (i:=6) sc.nd rfl (Or.inl rfl)) (qeP (qaF (i:=7) sc.nd rfl (Or.inl rfl)) qmw))))       (qag (qaA (qap (qgk (K:=K) rfl hr.units0) (pec C_16 hr (qaB (pv 3) (qaB (pv 6) qad))) (pv 7) (qat _)) (qag (qao qfX)) qam))))
   refine' qac ?_ ?_
   rotate_left 2
   . exact (qdT PassesOwn.never rfl (qb1 (qaw (qae qi4 (qae qah (qae qfX (qjB (qaw (qae qaf (qae qaf qad))) (qjh (qkV (qae qaf qad)) (qjt qg0 qad)))))))) (qaF (i:=8) sc.nd rfl (Or.inl rfl)) (qag (qaA (qap (qgk (K:=K) rfl hr.units0) (pec C_16 hr (qaB (pv 3) (qaB (pv 8) qad))) qaf (qat _)) (qag (qao qfX)) qam)))
   refine' qac ?_ ?_
   rotate_left 2
   . exact (qdT PassesOwn.never rfl (qb1 (pec C_12 hr (qaB (pv 2) qad))) (qaF (i:=8) sc.nd rfl (Or.inl rfl)) (qag (qaA (qdy (qcg (pec C_17 hr (qaB (pv 8) qad)))) (qag (qao qfX)) qam)))
   refine' qac ?_ ?_
   rotate_left 2
   . apply qaA
     . exact (qap (qgk (K:=K) rfl hr.units0) (pec C_16 hr (qaB (pv 3) (qae qaf qad))) qaf (qat _))
     . apply qag
       exact (qao qfX)
     . exact qam
   refine' qac ?_ ?_
   rotate_left 2
   . apply qaA
     . exact (PW.pt (qog (qap qjP (pv 1) qah (qat _)) (qma (qap (qgk (K:=K) rfl hr.units0) (pec C_16 hr (qaB (pv 3) (qae qaf qad))) qaf (qat _)))))
     . apply qag
       exact (qao qfX)
     . exact qam
   apply qag
   exact (qao (qjp (qgE (qaz (K:=K) rfl hr.units0) (qcN (pv 3) Z.cl C_53 hr (by decide) qcS (qae qaf qad)) (pec C_35 hr (qaB (pv 2) (qaB (pv 4) qad))) (qat _)) (qjw (qgE (qaz (K:=K) rfl hr.units0) (qcN (pv 3) Z.cl C_53 hr (by decide) qcS (qae qaf qad)) qaf (qat _)))))
 refine rdg (σ':=[some x0,none,none,none,none,none,none,none,none]) rfl ?_
 obtain ⟨a,ns,rfl,hS,hlen,q⟩:=h
 refine qaI (fun σ' H'=>H=H'/\∃n:Nat,2<=n/\n<=8/\σ'=[some (.ref a),some (.int (n:Nat)),none,none,none,none,none,none,none]) ?_ fun N hN=>?_
 rotate_left
 . (try walk_at "rd")
   refine ⟨_,_,rfl,a,ns,0,rfl,hS,hlen,rfl,by omega,fun c0=>⟨_,_,rfl,c0,9,rfl,rfl,by omega,?_⟩⟩
   (try walk_at "rd")
   exact ⟨by decide,hN _ _ ⟨rfl,2+qa7 c0 9%7,by omega,by omega,rfl⟩⟩
 rintro σ' H' ⟨rfl,n,hn2,hn,rfl⟩
 refine qaI (fun σ' H'=>∃(p:Addr) (ws:List Str),ws.length=n/\Tx.Wds ws/\qas H H'/\H' p=some (.lst (sV ws))/\σ'=[some (.ref a),some (.int (ws.length:Nat)),some (.ref p),none,none,none,none,none,none]) ?_ fun N hN=>?_
 rotate_left
 . (try walk_at "rd")
   exact ⟨_,_,rfl,a,ns,1,rfl,hS,hlen,rfl,by omega,fun c1=>⟨_,_,rfl,c1,n,rfl,rfl,by omega,fun p ws H1 hp s1 f1 hw hl=>hN _ _ ⟨p,ws,hl,hw,s1,f1,by rw [hl]⟩⟩⟩
 rintro σ' H1 ⟨p,ws,rfl,hw,s1,f1,rfl⟩
 have hS:=s1.seq hS
 clear s1
 have h8:=hw.few
 refine qaI (fun σ' H'=>∃(d pk:Addr),qas H1 H'/\qea cD H' d pk ws []/\σ'=[some (.ref a),some (.int (ws.length:Nat)),some (.ref p),some (.ref d),none,none,none,none,none]) ?_ fun N hN=>?_
 rotate_left
 . (try walk_at "rd")
   refine ⟨rfl,_,p,ws,rfl,rfl,SqL.of f1,qbX (M:=8) (N:=8) (fun y hy=>(hw.wd y hy).2.1) hw.few (by rw [Tx.lit_space];decide) (by decide),fun d dx hd hdx hne=>⟨_,_,rfl,d,dx,rfl,qai,.inl ⟨ws,rfl,hw,fun pk H2 hpk D2 s2=>⟨rfl,?_⟩⟩⟩⟩
   have t2:qas H1 H2:=fun b o e=>s2 b o (by rw [qaq (qay e hd),qaq (qay e hdx)];exact e) (qay e hd)
   exact hN _ _ ⟨d,pk,t2,D2,rfl⟩
 rintro σ' H2 ⟨d,pk,s2,D2,rfl⟩
 have hS:=s2.seq hS
 have f1:=s2 _ _ f1
 clear s2
 refine qaI (fun σ' H'=>∃(pA:Addr) (A:List Nat),Fml ws.length A/\qas H2 H'/\H' pA=some (.lst (nV A))/\σ'=[some (.ref a),some (.int (ws.length:Nat)),some (.ref p),some (.ref d),some (.ref pA),none,none,none,none]) ?_ fun N hN=>?_
 rotate_left
 . (try walk_at "rd")
   exact ⟨_,_,_,_,rfl,a,ns,2,ws.length,8,rfl,hS,hlen,rfl,by omega,rfl,by omega,rfl,by omega,fun pA A H3 hp3 s3 fA hr3 hb3 h703=>hN _ _ ⟨pA,A,⟨hr3,hb3,h703⟩,s3,fA,rfl⟩⟩
 rintro σ' H3 ⟨pA,A,hA,s3,fA,rfl⟩
 have hS:=s3.seq hS
 have f1:=s3 _ _ f1
 have D3:=D2.same s3
 clear D2 s3
 have fAl:=Tx.fT_len hw hA.lt (by have:=hA.few;omega)
 have zz:100000<=sizeLine:=by decide
 have l6a:(Str.ofString "let a ").length=6:=by decide +kernel
 have wa:Tx.Wd "a" := ⟨by decide +kernel,by decide +kernel,by decide +kernel⟩
 have wb:Tx.Wd "b" := ⟨by decide +kernel,by decide +kernel,by decide +kernel⟩
 have hB:Fml ws.length [0]:=⟨by simp,fun b hb=>by rw [ydi.mp hb];exact yah _,by decide⟩
 obtain ⟨kv3,c3,_⟩:=D3.dc
 have npk:p≠pk:=fun e=>by rw [e,c3] at f1;cases f1
 have nAk:pA≠pk:=fun e=>by rw [e,c3] at fA;cases fA
 refine qaI (fun σ' H'=>qea cD H' d pk ws (qg8 [] "a" A)/\SmB pk H3 H'/\σ'=[some (.ref a),some (.int (ws.length:Nat)),some (.ref p),some (.ref d),some (.ref pA),none,none,none,none]) ?_ fun N hN=>?_
 rotate_left
 . (try walk_at "rd")
   obtain ⟨dx,pw,o4,_⟩:=D3.ob
   refine ⟨dx,_,o4,qcE _ _ (by decide +kernel) (by decide +kernel),_,_,rfl,p,pA,ws,A,rfl,f1,hw,rfl,fA,hA.lt,hA.few,fun H5 s5=>⟨_,rfl,by omega,_,_,rfl,d,pk,ws,[],rfl,D3.same s5,.inl ⟨_,.put "a" A,rfl,⟨qpR hw hA (by decide +kernel) (by decide +kernel) (by decide +kernel),by omega,wa,hA,.inr (by decide)⟩,fun H6 s6 D6=>?_⟩⟩⟩
   exact hN _ _ ⟨D6,fun b o e hb=>s6 b o (s5 b o e) hb,rfl⟩
 rintro σ' H4 ⟨D4,s4,rfl⟩
 have f1:=s4 _ _ f1 npk
 have fA:=s4 _ _ fA nAk
 have hS:=qmk s4 c3 hS
 clear D3 s4 c3
 obtain ⟨kv4,c4,_⟩:=D4.dc
 refine qaI (fun σ' H'=>qea cD H' d pk ws (qg8 (qg8 [] "a" A) "b" [0])/\SmB pk H4 H'/\σ'=[some (.ref a),some (.int (ws.length:Nat)),some (.ref p),some (.ref d),some (.ref pA),none,none,none,none]) ?_ fun N hN=>?_
 rotate_left
 . (try walk_at "rd")
   obtain ⟨dx,pw,o4,_⟩:=D4.ob
   exact ⟨dx,_,o4,qcE _ _ (by decide +kernel) (by decide +kernel),_,_,rfl,d,pk,ws,_,rfl,D4,.inl ⟨_,.put "b" [0],rfl,⟨qtb,by rw [qi0];decide +kernel,wb,hB,.inr (by rw [qcF];split<;>simp)⟩,fun H6 s6 D6=>hN _ _ ⟨D6,s6,rfl⟩⟩⟩
 rintro σ' H5 ⟨D5,s5,rfl⟩
 have f1:=s5 _ _ f1 npk
 have fA:=s5 _ _ fA nAk
 have hS:=qmk s5 c4 hS
 clear D4 s5 c4
 have l_a:(qg8 (qg8 [] "a" A) "b" [0]).lookup ("a" : Str)=some A:=by rw [qbh,if_neg (by decide +kernel),qbh,if_pos rfl]
 have l_b:(qg8 (qg8 [] "a" A) "b" [0]).lookup ("b" : Str)=some [0]:=by rw [qbh,if_pos rfl]
 have l_n:∀n:Str,n ≠ "a" -> n ≠ "b" -> (qg8 (qg8 [] "a" A) "b" [0]).lookup n=none:=fun n h1 h2=>by rw [qbh,if_neg h2,qbh,if_neg h1];rfl
 generalize qg8 (qg8 [] "a" A) "b" [0]=m at D5 l_a l_b l_n
 refine qaI (fun σ' H'=>∃v5 v6 v7 v8:Option V,qas H5 H'/\σ'=[some (.ref a),some (.int (ws.length:Nat)),some (.ref p),some (.ref d),some (.ref pA),v5,v6,v7,v8]) ?_ fun N hN=>?_
 rotate_left
 . (try walk_at "rd")
   refine ⟨_,_,rfl,a,ns,30,rfl,hS,hlen,rfl,by omega,fun c30=>⟨_,_,rfl,a,ns,31,rfl,hS,hlen,rfl,by omega,fun c31=>⟨qaH (by simp),fun q1 hq1=>?_⟩⟩⟩
   generalize g1:upd H5 q1 _=G1
   have b1:=qaJ g1
   have w1:=qav g1 hq1
   refine ⟨a,_,rfl,w1.seq hS,fun q2 hq2=>?_⟩
   generalize g2:upd G1 q2 _=G2
   have b2:=qaJ g2
   have w2:=w1.trans (qav g2 hq2)
   have b1:=qav g2 hq2 _ _ b1
   have lc:=qpQ (ns.map V.int) (some 32) (some 50)
   rw [ycj] at lc
   refine ⟨q1,q2,_,_,rfl,rfl,SqL.of b1,SqL.of b2,qaH (by simp;omega),fun q3 hq3=>⟨q3,rfl,⟨_,SqL.of qai⟩,?_⟩⟩
   generalize g3:upd G2 q3 _=G3
   have b3:=qaJ g3
   have w3:=w2.trans (qav g3 hq3)
   have f3:=w3 _ _ f1
   have D3:=D5.same w3
   have hall:∀x∈[V.int c30,V.int c31]++qkh (ns.map V.int) (some 32) (some 50),∃z,x=V.int z:=fun x hx=>by
     rcases yat.mp hx with y | y
     . simp only [ybd,ycw,or_false] at y
       rcases y with rfl | rfl<;>exact ⟨_,rfl⟩
     . obtain ⟨z,_,rfl⟩:=ybn.mp (qqj y)
       exact ⟨z,rfl⟩
   generalize [V.int c30,V.int c31]++qkh (ns.map V.int) (some 32) (some 50)=zs at b3 hall
   clear b1 b2 g1 g2 g3 w1 w2
   refine qhl (xs:=zs) (fun i σ H'=>∃v5 v6 v7 v8:Option V,qas G3 H'/\σ=[some (.ref a),some (.int (ws.length:Nat)),some (.ref p),some (.ref d),some (.ref pA),v5,v6,v7,v8]) ⟨_,_,_,_,qas.refl _,rfl⟩ (fun i σ H' _ ⟨_,_,_,_,e,_⟩=>SqL.of (e _ _ b3)) ?_ ?_
   rotate_left
   . rintro σ H6 ⟨v5,v6,v7,v8,s6,rfl⟩
     exact hN _ _ ⟨v5,v6,v7,v8,w3.trans s6,rfl⟩
   rintro i x σ H6 hx ⟨v5,v6,v7,v8,s6,rfl⟩ N' hN'
   obtain ⟨z,rfl⟩:=hall x (ydk hx)
   (try walk_at "rd")
   refine ⟨_,_,rfl,p,ws,z,rfl,s6 _ _ f3,hw,hn2,rfl,fun t H7 zr z0 t0 j u v ht s7 a7 hm hz hXY ez=>?_⟩
   refine ⟨t,rfl,_,SqT.of a7,rfl,_,_,rfl,_,_,rfl,rfl,?_⟩
   (try walk_at "rd")
   have D7:=(D3.same s6).same s7
   have hW:qhc ws m zr (qlh j):=by
     rw [ez]
     exact qkA hXY ⟨A,l_a,hA⟩ ⟨[0],l_b,hB⟩ l_n hm hz
   refine ⟨_,_,rfl,d,pk,ws,m,_,rfl,D7,.inl ⟨zr,rfl,.inl ⟨_,hW,rfl⟩⟩,fun H8 s8=>qhk.mpr ⟨false,by simp,qfy (hN' _ _ ⟨_,_,_,_,(s6.trans s7).trans s8,rfl⟩)⟩⟩
 rintro σ' H6 ⟨v5,v6,v7,v8,s6,rfl⟩
 have f1:=s6 _ _ f1
 have fA:=s6 _ _ fA
 have D6:=D5.same s6
 clear D5 s6
 refine qaI (fun σ' H'=>∃v5 v6 v7 v8:Option V,qas H6 H'/\σ'=[some (.ref a),some (.int (ws.length:Nat)),some (.ref p),some (.ref d),some (.ref pA),v5,v6,v7,v8]) ?_ fun N hN=>?_
 rotate_left
 . (try walk_at "rd")
   refine ⟨qaH (by simp),fun q1 hq1=>⟨qaH (by simp),fun q2 hq2=>fun q3 hq3=>⟨qaH (by simp),fun q4 hq4=>⟨⟨_,SqL.of qai⟩,?_⟩⟩⟩⟩
   have t1:=qas.new (o := .lst [V.str (Str.ofString "show"),V.str (Str.ofString "a")]) hq1
   have t2:=qas.new (o := .tup [V.str (Str.ofString "show a")]) hq2
   have t3:=qas.new (o := .dK []) hq3
   have t4:=qas.new (o := .lst [V.non,V.int 5,V.bl true,V.ref q1,V.ref q2,V.ref q3]) hq4
   have sA:=((t1.trans t2).trans t3).trans t4
   have b1:=t4 _ _ (t3 _ _ (t2 _ _ (qai (H:=H6) (a:=q1) (o := .lst [V.str (Str.ofString "show"),V.str (Str.ofString "a")]))))
   have b2:=t4 _ _ (t3 _ _ (qai (H:=upd H6 q1 (.lst [V.str (Str.ofString "show"),V.str (Str.ofString "a")])) (a:=q2) (o := .tup [V.str (Str.ofString "show a")])))
   have b3:=t4 _ _ (qai (H:=upd (upd H6 q1 (.lst [V.str (Str.ofString "show"),V.str (Str.ofString "a")])) q2 (.tup [V.str (Str.ofString "show a")])) (a:=q3) (o := .dK []))
   generalize g4:upd (upd (upd (upd H6 q1 (.lst [V.str (Str.ofString "show"),V.str (Str.ofString "a")])) q2 (.tup [V.str (Str.ofString "show a")])) q3 (.dK [])) q4 _=G4 at *
   have b4:=qaJ g4
   have hbad:∀x∈[V.non,V.int 5,V.bl true,V.ref q1,V.ref q2,V.ref q3],∃t,qdZ G4 x=some t/\t ≠ "str" := fun x hx=>by
     simp only [ybd,ycw,or_false] at hx
     rcases hx with rfl | rfl | rfl | rfl | rfl | rfl
     . exact ⟨_,rfl,by decide⟩
     . exact ⟨_,rfl,by decide⟩
     . exact ⟨_,rfl,by decide⟩
     . exact ⟨"list",by simp [qdZ,b1],by decide⟩
     . exact ⟨"tuple",by simp [qdZ,b2],by decide⟩
     . exact ⟨"dict",by simp [qdZ,b3],by decide⟩
   clear t1 t2 t3 t4 g4 b1 b2 b3
   refine qhl (xs:=[V.non,V.int 5,V.bl true,V.ref q1,V.ref q2,V.ref q3]) (fun i σ H'=>∃v5 v6 v7 v8:Option V,qas G4 H'/\σ=[some (.ref a),some (.int (ws.length:Nat)),some (.ref p),some (.ref d),some (.ref pA),v5,v6,v7,v8]) ⟨_,_,_,_,qas.refl _,rfl⟩ (fun i σ H' _ ⟨_,_,_,_,e,_⟩=>SqL.of (e _ _ b4)) ?_ ?_
   rotate_left
   . rintro σ H7 ⟨v5,v6,v7,v8,s7,rfl⟩
     exact hN _ _ ⟨v5,v6,v7,v8,sA.trans s7,rfl⟩
   rintro i x σ H7 hx ⟨v5,v6,v7,v8,s7,rfl⟩ N' hN'
   obtain ⟨t,hk,hne⟩:=hbad x (ydk hx)
   (try walk_at "rd")
   exact ⟨_,_,rfl,d,pk,ws,m, "deed",rfl,(D6.same sA).same s7,.inr ⟨t,qd2 s7 hk,hne,rfl⟩,fun H8 s8=>qhk.mpr ⟨false,by simp,qfy (hN' _ _ ⟨_,_,_,_,s7.trans s8,rfl⟩)⟩⟩
 rintro σ' H7 ⟨v5,v6,v7,v8,s7,rfl⟩
 have f1:=s7 _ _ f1
 have fA:=s7 _ _ fA
 have D7:=D6.same s7
 clear D6 s7
 refine qaI (fun σ' H'=>∃v5 v6 v7 v8:Option V,qas H7 H'/\σ'=[some (.ref a),some (.int (ws.length:Nat)),some (.ref p),some (.ref d),some (.ref pA),v5,v6,v7,v8]) ?_ fun N hN=>?_
 rotate_left
 . (try walk_at "rd")
   refine ⟨_,rfl,p,ws,rfl,f1,hw,hn2,fun q1 H8 vs hq1 s8 a8 hl hb=>⟨q1,rfl,⟨_,SqL.of a8⟩,?_⟩⟩
   refine qhl (xs:=vs) (fun i σ H'=>∃v5 v6 v7 v8:Option V,qas H8 H'/\σ=[some (.ref a),some (.int (ws.length:Nat)),some (.ref p),some (.ref d),some (.ref pA),v5,v6,v7,v8]) ⟨_,_,_,_,qas.refl _,rfl⟩ (fun i σ H' _ ⟨_,_,_,_,e,_⟩=>SqL.of (e _ _ a8)) ?_ ?_
   rotate_left
   . rintro σ H9 ⟨v5,v6,v7,v8,s9,rfl⟩
     exact hN _ _ ⟨v5,v6,v7,v8,s8.trans s9,rfl⟩
   rintro i x σ H9 hx ⟨v5,v6,v7,v8,s9,rfl⟩ N' hN'
   have hb:=hb x (ydk hx)
   (try walk_at "rd")
   refine ⟨_,rfl,?_,fun H10 s10=>?_⟩
   . rcases hb with z | ⟨t,hk,hne⟩
     . exact .inl z
     . exact .inr ⟨t,qd2 s9 hk,hne⟩
   . refine ⟨true,rfl,?_⟩
     rw [if_neg (by decide)]
     exact hN' _ _ ⟨_,_,_,_,s9.trans s10,rfl⟩
 rintro σ' H8 ⟨v5,v6,v7,v8,s8,rfl⟩
 have f1:=s8 _ _ f1
 have fA:=s8 _ _ fA
 have D8:=D7.same s8
 clear D7 s8
 refine qaI (fun σ' H'=>qas H8 H'/\σ'=[some (.ref a),some (.int (ws.length:Nat)),some (.ref p),some (.ref d),some (.ref pA),v5,v6,v7,v8]) ?_ fun N hN=>?_
 rotate_left
 . (try walk_at "rd")
   exact ⟨_,_,rfl,d,pk,ws,m,_,rfl,D8,.inl ⟨_,rfl,.inl ⟨.fy,qo1 (l_n _ (by decide +kernel) (by decide +kernel)),rfl⟩⟩,fun H9 s9=>qhk.mpr ⟨false,by simp [knd],qfy (hN _ _ ⟨s9,rfl⟩)⟩⟩
 rintro σ' H9 ⟨s9,rfl⟩
 have f1:=s9 _ _ f1
 have fA:=s9 _ _ fA
 have D9:=D8.same s9
 clear D8 s9
 refine qaI (fun σ' H'=>qas H9 H'/\σ'=[some (.ref a),some (.int (ws.length:Nat)),some (.ref p),some (.ref d),some (.ref pA),v5,v6,v7,v8]) ?_ fun N hN=>?_
 rotate_left
 . (try walk_at "rd")
   refine qoC (fun h5=>?_) fun _=>hN _ _ ⟨qas.refl _,rfl⟩
   exact ⟨_,_,rfl,d,pk,ws,m,_,rfl,D9,.inl ⟨_,rfl,.inr ⟨rfl, "b",[0],by decide +kernel,qrm,l_b,hB,by omega⟩⟩,fun H10 s10=>qhk.mpr ⟨false,by simp,qfy (hN _ _ ⟨s10,rfl⟩)⟩⟩
 rintro σ' H10 ⟨s10,rfl⟩
 have f1:=s10 _ _ f1
 have fA:=s10 _ _ fA
 have D10:=D9.same s10
 clear D9 s10
 (try walk_at "rd")
 obtain ⟨dx,pw,o1,_⟩:=D10.ob
 refine ⟨dx,_,o1,qcE _ _ (by decide +kernel) (by decide +kernel),_,_,rfl,d,pk,ws,m,rfl,D10,.inl ⟨_,.shw A,rfl,⟨"a",by decide +kernel,qr7,l_a,hA⟩,fun Ha sa=>?_⟩⟩
 refine ⟨_,_,rfl,p,pA,ws,A,rfl,sa _ _ f1,hw,rfl,sa _ _ fA,hA.lt,hA.few,fun Hb sb=>qkT.mpr ⟨true,by simp,qha ?_⟩⟩
 have D11:=(D10.same sa).same sb
 obtain ⟨dx,pw,o1,_⟩:=D11.ob
 refine ⟨dx,_,o1,qcE _ _ (by decide +kernel) (by decide +kernel),_,_,rfl,d,pk,ws,m,rfl,D11,.inl ⟨_,.shw [0],rfl,⟨"b",by decide +kernel,qrN,l_b,hB⟩,fun Hc sc=>qkT.mpr ?_⟩⟩
 rw [qi0,decide_eq_true rfl]
 exact q _
end
theorem all_mk {l:W.OpenLaw} {w:World} {K:W.Frag} {h:Heap} {mg:Str->Option Value} {fa:Addr} (X:K.In h) (G:h.Ns mainGlobals mg) (hfa:mg "law" = some (.ref fa))
   {cD aW cX cN cF cH cO cM:Addr}
   {f_43:Addr} {od_43 an_43:Option Addr} {sl_43:Array (Option Value)} {oc_43 kV_43 dc_43 pm_43 cd_43 ct_43:Value}
   {f_33:Addr} {od_33 an_33:Option Addr} {sl_33:Array (Option Value)} {oc_33 kV_33 dc_33 pm_33 cd_33 ct_33:Value}
   {f_44:Addr} {od_44 an_44:Option Addr} {sl_44:Array (Option Value)} {oc_44 kV_44 dc_44 pm_44 cd_44 ct_44:Value}
   {f_34:Addr} {od_34 an_34:Option Addr} {sl_34:Array (Option Value)} {oc_34 kV_34 dc_34 pm_34 cd_34 ct_34:Value}
   {f_18:Addr} {od_18 an_18:Option Addr} {sl_18:Array (Option Value)} {oc_18 kV_18 dc_18 pm_18 cd_18 ct_18:Value}
   {f_24:Addr} {od_24 an_24:Option Addr} {sl_24:Array (Option Value)} {oc_24 kV_24 dc_24 pm_24 cd_24 ct_24:Value}
   {f_06:Addr} {od_06 an_06:Option Addr} {sl_06:Array (Option Value)} {oc_06 kV_06 dc_06 pm_06 cd_06 ct_06:Value}
   {f_35:Addr} {od_35 an_35:Option Addr} {sl_35:Array (Option Value)} {oc_35 kV_35 dc_35 pm_35 cd_35 ct_35:Value}
   {f_57:Addr} {od_57 an_57:Option Addr} {sl_57:Array (Option Value)} {oc_57 kV_57 dc_57 pm_57 cd_57 ct_57:Value}
   {f_36:Addr} {od_36 an_36:Option Addr} {sl_36:Array (Option Value)} {oc_36 kV_36 dc_36 pm_36 cd_36 ct_36:Value}
   {f_45:Addr} {od_45 an_45:Option Addr} {sl_45:Array (Option Value)} {oc_45 kV_45 dc_45 pm_45 cd_45 ct_45:Value}
   {f_58:Addr} {od_58 an_58:Option Addr} {sl_58:Array (Option Value)} {oc_58 kV_58 dc_58 pm_58 cd_58 ct_58:Value}
   {f_59:Addr} {od_59 an_59:Option Addr} {sl_59:Array (Option Value)} {oc_59 kV_59 dc_59 pm_59 cd_59 ct_59:Value}
   {f_54:Addr} {od_54 an_54:Option Addr} {sl_54:Array (Option Value)} {oc_54 kV_54 dc_54 pm_54 cd_54 ct_54:Value}
   {f_25:Addr} {od_25 an_25:Option Addr} {sl_25:Array (Option Value)} {oc_25 kV_25 dc_25 pm_25 cd_25 ct_25:Value}
   {f_37:Addr} {od_37 an_37:Option Addr} {sl_37:Array (Option Value)} {oc_37 kV_37 dc_37 pm_37 cd_37 ct_37:Value}
   {f_46:Addr} {od_46 an_46:Option Addr} {sl_46:Array (Option Value)} {oc_46 kV_46 dc_46 pm_46 cd_46 ct_46:Value}
   {f_19:Addr} {od_19 an_19:Option Addr} {sl_19:Array (Option Value)} {oc_19 kV_19 dc_19 pm_19 cd_19 ct_19:Value}
   {f_47:Addr} {od_47 an_47:Option Addr} {sl_47:Array (Option Value)} {oc_47 kV_47 dc_47 pm_47 cd_47 ct_47:Value}
   {f_20:Addr} {od_20 an_20:Option Addr} {sl_20:Array (Option Value)} {oc_20 kV_20 dc_20 pm_20 cd_20 ct_20:Value}
   {f_64:Addr} {od_64 an_64:Option Addr} {sl_64:Array (Option Value)} {oc_64 kV_64 dc_64 pm_64 cd_64 ct_64:Value}
   {f_65:Addr} {od_65 an_65:Option Addr} {sl_65:Array (Option Value)} {oc_65 kV_65 dc_65 pm_65 cd_65 ct_65:Value}
   {f_70:Addr} {od_70 an_70:Option Addr} {sl_70:Array (Option Value)} {oc_70 kV_70 dc_70 pm_70 cd_70 ct_70:Value}
   {f_71:Addr} {od_71 an_71:Option Addr} {sl_71:Array (Option Value)} {oc_71 kV_71 dc_71 pm_71 cd_71 ct_71:Value}
   {f_66:Addr} {od_66 an_66:Option Addr} {sl_66:Array (Option Value)} {oc_66 kV_66 dc_66 pm_66 cd_66 ct_66:Value}
   {f_67:Addr} {od_67 an_67:Option Addr} {sl_67:Array (Option Value)} {oc_67 kV_67 dc_67 pm_67 cd_67 ct_67:Value}
   {f_13:Addr} {od_13 an_13:Option Addr} {sl_13:Array (Option Value)} {oc_13 kV_13 dc_13 pm_13 cd_13 ct_13:Value}
   {f_72:Addr} {od_72 an_72:Option Addr} {sl_72:Array (Option Value)} {oc_72 kV_72 dc_72 pm_72 cd_72 ct_72:Value}
   {f_38:Addr} {od_38 an_38:Option Addr} {sl_38:Array (Option Value)} {oc_38 kV_38 dc_38 pm_38 cd_38 ct_38:Value}
   {f_26:Addr} {od_26 an_26:Option Addr} {sl_26:Array (Option Value)} {oc_26 kV_26 dc_26 pm_26 cd_26 ct_26:Value}
   {f_60:Addr} {od_60 an_60:Option Addr} {sl_60:Array (Option Value)} {oc_60 kV_60 dc_60 pm_60 cd_60 ct_60:Value}
   {f_73:Addr} {od_73 an_73:Option Addr} {sl_73:Array (Option Value)} {oc_73 kV_73 dc_73 pm_73 cd_73 ct_73:Value}
   {f_00:Addr} {od_00 an_00:Option Addr} {sl_00:Array (Option Value)} {oc_00 kV_00 dc_00 pm_00 cd_00 ct_00:Value}
   {f_61:Addr} {od_61 an_61:Option Addr} {sl_61:Array (Option Value)} {oc_61 kV_61 dc_61 pm_61 cd_61 ct_61:Value}
   {f_04:Addr} {od_04 an_04:Option Addr} {sl_04:Array (Option Value)} {oc_04 kV_04 dc_04 pm_04 cd_04 ct_04:Value}
   {f_74:Addr} {od_74 an_74:Option Addr} {sl_74:Array (Option Value)} {oc_74 kV_74 dc_74 pm_74 cd_74 ct_74:Value}
   {f_48:Addr} {od_48 an_48:Option Addr} {sl_48:Array (Option Value)} {oc_48 kV_48 dc_48 pm_48 cd_48 ct_48:Value}
   {f_55:Addr} {od_55 an_55:Option Addr} {sl_55:Array (Option Value)} {oc_55 kV_55 dc_55 pm_55 cd_55 ct_55:Value}
   {f_07:Addr} {od_07 an_07:Option Addr} {sl_07:Array (Option Value)} {oc_07 kV_07 dc_07 pm_07 cd_07 ct_07:Value}
   {f_21:Addr} {od_21 an_21:Option Addr} {sl_21:Array (Option Value)} {oc_21 kV_21 dc_21 pm_21 cd_21 ct_21:Value}
   {f_49:Addr} {od_49 an_49:Option Addr} {sl_49:Array (Option Value)} {oc_49 kV_49 dc_49 pm_49 cd_49 ct_49:Value}
   {f_39:Addr} {od_39 an_39:Option Addr} {sl_39:Array (Option Value)} {oc_39 kV_39 dc_39 pm_39 cd_39 ct_39:Value}
   {f_68:Addr} {od_68 an_68:Option Addr} {sl_68:Array (Option Value)} {oc_68 kV_68 dc_68 pm_68 cd_68 ct_68:Value}
   {f_14:Addr} {od_14 an_14:Option Addr} {sl_14:Array (Option Value)} {oc_14 kV_14 dc_14 pm_14 cd_14 ct_14:Value}
   {f_01:Addr} {od_01 an_01:Option Addr} {sl_01:Array (Option Value)} {oc_01 kV_01 dc_01 pm_01 cd_01 ct_01:Value}
   {f_22:Addr} {od_22 an_22:Option Addr} {sl_22:Array (Option Value)} {oc_22 kV_22 dc_22 pm_22 cd_22 ct_22:Value}
   {f_62:Addr} {od_62 an_62:Option Addr} {sl_62:Array (Option Value)} {oc_62 kV_62 dc_62 pm_62 cd_62 ct_62:Value}
   {f_69:Addr} {od_69 an_69:Option Addr} {sl_69:Array (Option Value)} {oc_69 kV_69 dc_69 pm_69 cd_69 ct_69:Value}
   {f_27:Addr} {od_27 an_27:Option Addr} {sl_27:Array (Option Value)} {oc_27 kV_27 dc_27 pm_27 cd_27 ct_27:Value}
   {f_28:Addr} {od_28 an_28:Option Addr} {sl_28:Array (Option Value)} {oc_28 kV_28 dc_28 pm_28 cd_28 ct_28:Value}
   {f_40:Addr} {od_40 an_40:Option Addr} {sl_40:Array (Option Value)} {oc_40 kV_40 dc_40 pm_40 cd_40 ct_40:Value}
   {f_63:Addr} {od_63 an_63:Option Addr} {sl_63:Array (Option Value)} {oc_63 kV_63 dc_63 pm_63 cd_63 ct_63:Value}
   {f_23:Addr} {od_23 an_23:Option Addr} {sl_23:Array (Option Value)} {oc_23 kV_23 dc_23 pm_23 cd_23 ct_23:Value}
   {f_08:Addr} {od_08 an_08:Option Addr} {sl_08:Array (Option Value)} {oc_08 kV_08 dc_08 pm_08 cd_08 ct_08:Value}
   {f_41:Addr} {od_41 an_41:Option Addr} {sl_41:Array (Option Value)} {oc_41 kV_41 dc_41 pm_41 cd_41 ct_41:Value}
   {f_56:Addr} {od_56 an_56:Option Addr} {sl_56:Array (Option Value)} {oc_56 kV_56 dc_56 pm_56 cd_56 ct_56:Value}
   {f_15:Addr} {od_15 an_15:Option Addr} {sl_15:Array (Option Value)} {oc_15 kV_15 dc_15 pm_15 cd_15 ct_15:Value}
   {f_29:Addr} {od_29 an_29:Option Addr} {sl_29:Array (Option Value)} {oc_29 kV_29 dc_29 pm_29 cd_29 ct_29:Value}
   {f_03:Addr} {od_03 an_03:Option Addr} {sl_03:Array (Option Value)} {oc_03 kV_03 dc_03 pm_03 cd_03 ct_03:Value}
   {f_50:Addr} {od_50 an_50:Option Addr} {sl_50:Array (Option Value)} {oc_50 kV_50 dc_50 pm_50 cd_50 ct_50:Value}
   {f_51:Addr} {od_51 an_51:Option Addr} {sl_51:Array (Option Value)} {oc_51 kV_51 dc_51 pm_51 cd_51 ct_51:Value}
   {f_09:Addr} {od_09 an_09:Option Addr} {sl_09:Array (Option Value)} {oc_09 kV_09 dc_09 pm_09 cd_09 ct_09:Value}
   {f_05:Addr} {od_05 an_05:Option Addr} {sl_05:Array (Option Value)} {oc_05 kV_05 dc_05 pm_05 cd_05 ct_05:Value}
   {f_02:Addr} {od_02 an_02:Option Addr} {sl_02:Array (Option Value)} {oc_02 kV_02 dc_02 pm_02 cd_02 ct_02:Value}
   {f_10:Addr} {od_10 an_10:Option Addr} {sl_10:Array (Option Value)} {oc_10 kV_10 dc_10 pm_10 cd_10 ct_10:Value}
   {f_75:Addr} {od_75 an_75:Option Addr} {sl_75:Array (Option Value)} {oc_75 kV_75 dc_75 pm_75 cd_75 ct_75:Value}
   {f_52:Addr} {od_52 an_52:Option Addr} {sl_52:Array (Option Value)} {oc_52 kV_52 dc_52 pm_52 cd_52 ct_52:Value}
   {f_53:Addr} {od_53 an_53:Option Addr} {sl_53:Array (Option Value)} {oc_53 kV_53 dc_53 pm_53 cd_53 ct_53:Value}
   {f_42:Addr} {od_42 an_42:Option Addr} {sl_42:Array (Option Value)} {oc_42 kV_42 dc_42 pm_42 cd_42 ct_42:Value}
   {f_16:Addr} {od_16 an_16:Option Addr} {sl_16:Array (Option Value)} {oc_16 kV_16 dc_16 pm_16 cd_16 ct_16:Value}
   {f_30:Addr} {od_30 an_30:Option Addr} {sl_30:Array (Option Value)} {oc_30 kV_30 dc_30 pm_30 cd_30 ct_30:Value}
   {f_11:Addr} {od_11 an_11:Option Addr} {sl_11:Array (Option Value)} {oc_11 kV_11 dc_11 pm_11 cd_11 ct_11:Value}
   {f_31:Addr} {od_31 an_31:Option Addr} {sl_31:Array (Option Value)} {oc_31 kV_31 dc_31 pm_31 cd_31 ct_31:Value}
   {f_32:Addr} {od_32 an_32:Option Addr} {sl_32:Array (Option Value)} {oc_32 kV_32 dc_32 pm_32 cd_32 ct_32:Value}
   {f_17:Addr} {od_17 an_17:Option Addr} {sl_17:Array (Option Value)} {oc_17 kV_17 dc_17 pm_17 cd_17 ct_17:Value}
   {f_12:Addr} {od_12 an_12:Option Addr} {sl_12:Array (Option Value)} {oc_12 kV_12 dc_12 pm_12 cd_12 ct_12:Value}
   {f_law:Addr} {od_law an_law:Option Addr} {sl_law:Array (Option Value)} {oc_law kV_law dc_law pm_law cd_law ct_law:Value}
   (a_43:W.nsIn K mainGlobals "is_whole" = some (some (.ref f_43))) (l_43:K.lookup f_43=some ⟨oc_43,od_43,.func (W.fnOf "is_whole" "is_whole" (qak qb8) (qaj qb8) (qab qb8) .none kV_43 dc_43 pm_43 an_43 cd_43 ct_43),sl_43⟩) (c_43:W.codeIn K cd_43 "is_whole" = true) (k_43:W.keepIn K (.ref f_43)=true)
   (a_33:W.nsIn K mainGlobals "_law_cell" = some (some (.ref f_33))) (l_33:K.lookup f_33=some ⟨oc_33,od_33,.func (W.fnOf "_law_cell" "_law_cell" (qak qbL) (qaj qbL) (qab qbL) .none kV_33 dc_33 pm_33 an_33 cd_33 ct_33),sl_33⟩) (c_33:W.codeIn K cd_33 "_law_cell" = true) (k_33:W.keepIn K (.ref f_33)=true)
   (a_44:W.nsIn K mainGlobals "_law_mix" = some (some (.ref f_44))) (l_44:K.lookup f_44=some ⟨oc_44,od_44,.func (W.fnOf "_law_mix" "_law_mix" (qak qce) (qaj qce) (qab qce) .none kV_44 dc_44 pm_44 an_44 cd_44 ct_44),sl_44⟩) (c_44:W.codeIn K cd_44 "_law_mix" = true) (k_44:W.keepIn K (.ref f_44)=true)
   (a_34:W.nsIn K mainGlobals "_law_size" = some (some (.ref f_34))) (l_34:K.lookup f_34=some ⟨oc_34,od_34,.func (W.fnOf "_law_size" "_law_size" (qak qbN) (qaj qbN) (qab qbN) .none kV_34 dc_34 pm_34 an_34 cd_34 ct_34),sl_34⟩) (c_34:W.codeIn K cd_34 "_law_size" = true) (k_34:W.keepIn K (.ref f_34)=true)
   (a_18:W.nsIn K mainGlobals "_law_family" = some (some (.ref f_18))) (l_18:K.lookup f_18=some ⟨oc_18,od_18,.func (W.fnOf "_law_family" "_law_family" (qak qbl) (qaj qbl) (qab qbl) .none kV_18 dc_18 pm_18 an_18 cd_18 ct_18),sl_18⟩) (c_18:W.codeIn K cd_18 "_law_family" = true) (k_18:W.keepIn K (.ref f_18)=true)
   (a_24:W.nsIn K mainGlobals "_law_words" = some (some (.ref f_24))) (l_24:K.lookup f_24=some ⟨oc_24,od_24,.func (W.fnOf "_law_words" "_law_words" (qak qbw) (qaj qbw) (qab qbw) .none kV_24 dc_24 pm_24 an_24 cd_24 ct_24),sl_24⟩) (c_24:W.codeIn K cd_24 "_law_words" = true) (k_24:W.keepIn K (.ref f_24)=true)
   (a_06:W.nsIn K mainGlobals "_law_set_text" = some (some (.ref f_06))) (l_06:K.lookup f_06=some ⟨oc_06,od_06,.func (W.fnOf "_law_set_text" "_law_set_text" (qak qa1) (qaj qa1) (qab qa1) .none kV_06 dc_06 pm_06 an_06 cd_06 ct_06),sl_06⟩) (c_06:W.codeIn K cd_06 "_law_set_text" = true) (k_06:W.keepIn K (.ref f_06)=true)
   (a_35:W.nsIn K mainGlobals "_law_text" = some (some (.ref f_35))) (l_35:K.lookup f_35=some ⟨oc_35,od_35,.func (W.fnOf "_law_text" "_law_text" (qak qbV) (qaj qbV) (qab qbV) .none kV_35 dc_35 pm_35 an_35 cd_35 ct_35),sl_35⟩) (c_35:W.codeIn K cd_35 "_law_text" = true) (k_35:W.keepIn K (.ref f_35)=true)
   (a_57:W.nsIn K mainGlobals "is_set" = some (some (.ref f_57))) (l_57:K.lookup f_57=some ⟨oc_57,od_57,.func (W.fnOf "is_set" "is_set" (qak qda) (qaj qda) (qab qda) .none kV_57 dc_57 pm_57 an_57 cd_57 ct_57),sl_57⟩) (c_57:W.codeIn K cd_57 "is_set" = true) (k_57:W.keepIn K (.ref f_57)=true)
   (a_36:W.nsIn K mainGlobals "is_family" = some (some (.ref f_36))) (l_36:K.lookup f_36=some ⟨oc_36,od_36,.func (W.fnOf "is_family" "is_family" (qak qbO) (qaj qbO) (qab qbO) .none kV_36 dc_36 pm_36 an_36 cd_36 ct_36),sl_36⟩) (c_36:W.codeIn K cd_36 "is_family" = true) (k_36:W.keepIn K (.ref f_36)=true)
   (a_45:W.nsIn K mainGlobals "names_in" = some (some (.ref f_45))) (l_45:K.lookup f_45=some ⟨oc_45,od_45,.func (W.fnOf "names_in" "names_in" (qak qb6) (qaj qb6) (qab qb6) .none kV_45 dc_45 pm_45 an_45 cd_45 ct_45),sl_45⟩) (c_45:W.codeIn K cd_45 "names_in" = true) (k_45:W.keepIn K (.ref f_45)=true)
   (a_58:W.nsIn K mainGlobals "set_of" = some (some (.ref f_58))) (l_58:K.lookup f_58=some ⟨oc_58,od_58,.func (W.fnOf "set_of" "set_of" (qak qdd) (qaj qdd) (qab qdd) .none kV_58 dc_58 pm_58 an_58 cd_58 ct_58),sl_58⟩) (c_58:W.codeIn K cd_58 "set_of" = true) (k_58:W.keepIn K (.ref f_58)=true)
   (a_59:W.nsIn K mainGlobals "parted" = some (some (.ref f_59))) (l_59:K.lookup f_59=some ⟨oc_59,od_59,.func (W.fnOf "parted" "parted" (qak qc5) (qaj qc5) (qab qc5) .none kV_59 dc_59 pm_59 an_59 cd_59 ct_59),sl_59⟩) (c_59:W.codeIn K cd_59 "parted" = true) (k_59:W.keepIn K (.ref f_59)=true)
   (a_54:W.nsIn K mainGlobals "is_word" = some (some (.ref f_54))) (l_54:K.lookup f_54=some ⟨oc_54,od_54,.func (W.fnOf "is_word" "is_word" (qak qct) (qaj qct) (qab qct) .none kV_54 dc_54 pm_54 an_54 cd_54 ct_54),sl_54⟩) (c_54:W.codeIn K cd_54 "is_word" = true) (k_54:W.keepIn K (.ref f_54)=true)
   (a_25:W.nsIn K mainGlobals "read_names" = some (some (.ref f_25))) (l_25:K.lookup f_25=some ⟨oc_25,od_25,.func (W.fnOf "read_names" "read_names" (qak qbv) (qaj qbv) (qab qbv) .none kV_25 dc_25 pm_25 an_25 cd_25 ct_25),sl_25⟩) (c_25:W.codeIn K cd_25 "read_names" = true) (k_25:W.keepIn K (.ref f_25)=true)
   (a_37:W.nsIn K mainGlobals "read_name" = some (some (.ref f_37))) (l_37:K.lookup f_37=some ⟨oc_37,od_37,.func (W.fnOf "read_name" "read_name" (qak qbR) (qaj qbR) (qab qbR) .none kV_37 dc_37 pm_37 an_37 cd_37 ct_37),sl_37⟩) (c_37:W.codeIn K cd_37 "read_name" = true) (k_37:W.keepIn K (.ref f_37)=true)
   (a_46:W.nsIn K mainGlobals "show_set" = some (some (.ref f_46))) (l_46:K.lookup f_46=some ⟨oc_46,od_46,.func (W.fnOf "show_set" "show_set" (qak qca) (qaj qca) (qab qca) .none kV_46 dc_46 pm_46 an_46 cd_46 ct_46),sl_46⟩) (c_46:W.codeIn K cd_46 "show_set" = true) (k_46:W.keepIn K (.ref f_46)=true)
   (a_19:W.nsIn K mainGlobals "show_family" = some (some (.ref f_19))) (l_19:K.lookup f_19=some ⟨oc_19,od_19,.func (W.fnOf "show_family" "show_family" (qak qbk) (qaj qbk) (qab qbk) .none kV_19 dc_19 pm_19 an_19 cd_19 ct_19),sl_19⟩) (c_19:W.codeIn K cd_19 "show_family" = true) (k_19:W.keepIn K (.ref f_19)=true)
   (a_47:W.nsIn K mainGlobals "read_set" = some (some (.ref f_47))) (l_47:K.lookup f_47=some ⟨oc_47,od_47,.func (W.fnOf "read_set" "read_set" (qak qcd) (qaj qcd) (qab qcd) .none kV_47 dc_47 pm_47 an_47 cd_47 ct_47),sl_47⟩) (c_47:W.codeIn K cd_47 "read_set" = true) (k_47:W.keepIn K (.ref f_47)=true)
   (a_20:W.nsIn K mainGlobals "read_family" = some (some (.ref f_20))) (l_20:K.lookup f_20=some ⟨oc_20,od_20,.func (W.fnOf "read_family" "read_family" (qak qbm) (qaj qbm) (qab qbm) .none kV_20 dc_20 pm_20 an_20 cd_20 ct_20),sl_20⟩) (c_20:W.codeIn K cd_20 "read_family" = true) (k_20:W.keepIn K (.ref f_20)=true)
   (a_64:W.nsIn K mainGlobals "holds" = some (some (.ref f_64))) (l_64:K.lookup f_64=some ⟨oc_64,od_64,.func (W.fnOf "holds" "holds" (qak qeb) (qaj qeb) (qab qeb) .none kV_64 dc_64 pm_64 an_64 cd_64 ct_64),sl_64⟩) (c_64:W.codeIn K cd_64 "holds" = true) (k_64:W.keepIn K (.ref f_64)=true)
   (a_65:W.nsIn K mainGlobals "meets" = some (some (.ref f_65))) (l_65:K.lookup f_65=some ⟨oc_65,od_65,.func (W.fnOf "meets" "meets" (qak qd5) (qaj qd5) (qab qd5) .none kV_65 dc_65 pm_65 an_65 cd_65 ct_65),sl_65⟩) (c_65:W.codeIn K cd_65 "meets" = true) (k_65:W.keepIn K (.ref f_65)=true)
   (a_70:W.nsIn K mainGlobals "rest" = some (some (.ref f_70))) (l_70:K.lookup f_70=some ⟨oc_70,od_70,.func (W.fnOf "rest" "rest" (qak qgj) (qaj qgj) (qab qgj) .none kV_70 dc_70 pm_70 an_70 cd_70 ct_70),sl_70⟩) (c_70:W.codeIn K cd_70 "rest" = true) (k_70:W.keepIn K (.ref f_70)=true)
   (a_71:W.nsIn K mainGlobals "says" = some (some (.ref f_71))) (l_71:K.lookup f_71=some ⟨oc_71,od_71,.func (W.fnOf "says" "says" (qak qgl) (qaj qgl) (qab qgl) .none kV_71 dc_71 pm_71 an_71 cd_71 ct_71),sl_71⟩) (c_71:W.codeIn K cd_71 "says" = true) (k_71:W.keepIn K (.ref f_71)=true)
   (a_66:W.nsIn K mainGlobals "least" = some (some (.ref f_66))) (l_66:K.lookup f_66=some ⟨oc_66,od_66,.func (W.fnOf "least" "least" (qak qed) (qaj qed) (qab qed) .none kV_66 dc_66 pm_66 an_66 cd_66 ct_66),sl_66⟩) (c_66:W.codeIn K cd_66 "least" = true) (k_66:W.keepIn K (.ref f_66)=true)
   (a_67:W.nsIn K mainGlobals "rests" = some (some (.ref f_67))) (l_67:K.lookup f_67=some ⟨oc_67,od_67,.func (W.fnOf "rests" "rests" (qak qd6) (qaj qd6) (qab qd6) .none kV_67 dc_67 pm_67 an_67 cd_67 ct_67),sl_67⟩) (c_67:W.codeIn K cd_67 "rests" = true) (k_67:W.keepIn K (.ref f_67)=true)
   (a_13:W.nsIn K mainGlobals "first_missed" = some (some (.ref f_13))) (l_13:K.lookup f_13=some ⟨oc_13,od_13,.func (W.fnOf "first_missed" "first_missed" (qak qba) (qaj qba) (qab qba) .none kV_13 dc_13 pm_13 an_13 cd_13 ct_13),sl_13⟩) (c_13:W.codeIn K cd_13 "first_missed" = true) (k_13:W.keepIn K (.ref f_13)=true)
   (a_72:W.nsIn K mainGlobals "hits" = some (some (.ref f_72))) (l_72:K.lookup f_72=some ⟨oc_72,od_72,.func (W.fnOf "hits" "hits" (qak qf9) (qaj qf9) (qab qf9) .none kV_72 dc_72 pm_72 an_72 cd_72 ct_72),sl_72⟩) (c_72:W.codeIn K cd_72 "hits" = true) (k_72:W.keepIn K (.ref f_72)=true)
   (a_38:W.nsIn K mainGlobals "always_in" = some (some (.ref f_38))) (l_38:K.lookup f_38=some ⟨oc_38,od_38,.func (W.fnOf "always_in" "always_in" (qak qbU) (qaj qbU) (qab qbU) .none kV_38 dc_38 pm_38 an_38 cd_38 ct_38),sl_38⟩) (c_38:W.codeIn K cd_38 "always_in" = true) (k_38:W.keepIn K (.ref f_38)=true)
   (a_26:W.nsIn K mainGlobals "always_out" = some (some (.ref f_26))) (l_26:K.lookup f_26=some ⟨oc_26,od_26,.func (W.fnOf "always_out" "always_out" (qak qbz) (qaj qbz) (qab qbz) .none kV_26 dc_26 pm_26 an_26 cd_26 ct_26),sl_26⟩) (c_26:W.codeIn K cd_26 "always_out" = true) (k_26:W.keepIn K (.ref f_26)=true)
   (a_60:W.nsIn K mainGlobals "either" = some (some (.ref f_60))) (l_60:K.lookup f_60=some ⟨oc_60,od_60,.func (W.fnOf "either" "either" (qak qc9) (qaj qc9) (qab qc9) .none kV_60 dc_60 pm_60 an_60 cd_60 ct_60),sl_60⟩) (c_60:W.codeIn K cd_60 "either" = true) (k_60:W.keepIn K (.ref f_60)=true)
   (a_73:W.nsIn K mainGlobals "both" = some (some (.ref f_73))) (l_73:K.lookup f_73=some ⟨oc_73,od_73,.func (W.fnOf "both" "both" (qak qf4) (qaj qf4) (qab qf4) .none kV_73 dc_73 pm_73 an_73 cd_73 ct_73),sl_73⟩) (c_73:W.codeIn K cd_73 "both" = true) (k_73:W.keepIn K (.ref f_73)=true)
   (a_00:W.nsIn K mainGlobals "first_met_by_alone" = some (some (.ref f_00))) (l_00:K.lookup f_00=some ⟨oc_00,od_00,.func (W.fnOf "first_met_by_alone" "first_met_by_alone" (qak qaE) (qaj qaE) (qab qaE) .none kV_00 dc_00 pm_00 an_00 cd_00 ct_00),sl_00⟩) (c_00:W.codeIn K cd_00 "first_met_by_alone" = true) (k_00:W.keepIn K (.ref f_00)=true)
   (a_61:W.nsIn K mainGlobals "looked" = some (some (.ref f_61))) (l_61:K.lookup f_61=some ⟨oc_61,od_61,.func (W.fnOf "looked" "looked" (qak qc8) (qaj qc8) (qab qc8) .none kV_61 dc_61 pm_61 an_61 cd_61 ct_61),sl_61⟩) (c_61:W.codeIn K cd_61 "looked" = true) (k_61:W.keepIn K (.ref f_61)=true)
   (a_04:W.nsIn K mainGlobals "first_left_out" = some (some (.ref f_04))) (l_04:K.lookup f_04=some ⟨oc_04,od_04,.func (W.fnOf "first_left_out" "first_left_out" (qak qaT) (qaj qaT) (qab qaT) .none kV_04 dc_04 pm_04 an_04 cd_04 ct_04),sl_04⟩) (c_04:W.codeIn K cd_04 "first_left_out" = true) (k_04:W.keepIn K (.ref f_04)=true)
   (a_74:W.nsIn K mainGlobals "held" = some (some (.ref f_74))) (l_74:K.lookup f_74=some ⟨oc_74,od_74,.func (W.fnOf "held" "held" (qak qf1) (qaj qf1) (qab qf1) .none kV_74 dc_74 pm_74 an_74 cd_74 ct_74),sl_74⟩) (c_74:W.codeIn K cd_74 "held" = true) (k_74:W.keepIn K (.ref f_74)=true)
   (a_48:W.nsIn K mainGlobals "table_of" = some (some (.ref f_48))) (l_48:K.lookup f_48=some ⟨oc_48,od_48,.func (W.fnOf "table_of" "table_of" (qak qb7) (qaj qb7) (qab qb7) .none kV_48 dc_48 pm_48 an_48 cd_48 ct_48),sl_48⟩) (c_48:W.codeIn K cd_48 "table_of" = true) (k_48:W.keepIn K (.ref f_48)=true)
   (a_55:W.nsIn K mainGlobals "noes_by" = some (some (.ref f_55))) (l_55:K.lookup f_55=some ⟨oc_55,od_55,.func (W.fnOf "noes_by" "noes_by" (qak qcx) (qaj qcx) (qab qcx) .none kV_55 dc_55 pm_55 an_55 cd_55 ct_55),sl_55⟩) (c_55:W.codeIn K cd_55 "noes_by" = true) (k_55:W.keepIn K (.ref f_55)=true)
   (a_07:W.nsIn K mainGlobals "first_parting" = some (some (.ref f_07))) (l_07:K.lookup f_07=some ⟨oc_07,od_07,.func (W.fnOf "first_parting" "first_parting" (qak qa0) (qaj qa0) (qab qa0) .none kV_07 dc_07 pm_07 an_07 cd_07 ct_07),sl_07⟩) (c_07:W.codeIn K cd_07 "first_parting" = true) (k_07:W.keepIn K (.ref f_07)=true)
   (a_21:W.nsIn K mainGlobals "compared_in" = some (some (.ref f_21))) (l_21:K.lookup f_21=some ⟨oc_21,od_21,.func (W.fnOf "compared_in" "compared_in" (qak qbi) (qaj qbi) (qab qbi) .none kV_21 dc_21 pm_21 an_21 cd_21 ct_21),sl_21⟩) (c_21:W.codeIn K cd_21 "compared_in" = true) (k_21:W.keepIn K (.ref f_21)=true)
   (a_49:W.nsIn K mainGlobals "compared" = some (some (.ref f_49))) (l_49:K.lookup f_49=some ⟨oc_49,od_49,.func (W.fnOf "compared" "compared" (qak qcb) (qaj qcb) (qab qcb) .none kV_49 dc_49 pm_49 an_49 cd_49 ct_49),sl_49⟩) (c_49:W.codeIn K cd_49 "compared" = true) (k_49:W.keepIn K (.ref f_49)=true)
   (a_39:W.nsIn K mainGlobals "turned_by" = some (some (.ref f_39))) (l_39:K.lookup f_39=some ⟨oc_39,od_39,.func (W.fnOf "turned_by" "turned_by" (qak qbP) (qaj qbP) (qab qbP) .none kV_39 dc_39 pm_39 an_39 cd_39 ct_39),sl_39⟩) (c_39:W.codeIn K cd_39 "turned_by" = true) (k_39:W.keepIn K (.ref f_39)=true)
   (a_68:W.nsIn K mainGlobals "turns" = some (some (.ref f_68))) (l_68:K.lookup f_68=some ⟨oc_68,od_68,.func (W.fnOf "turns" "turns" (qak qd7) (qaj qd7) (qab qd7) .none kV_68 dc_68 pm_68 an_68 cd_68 ct_68),sl_68⟩) (c_68:W.codeIn K cd_68 "turns" = true) (k_68:W.keepIn K (.ref f_68)=true)
   (a_14:W.nsIn K mainGlobals "show_numbers" = some (some (.ref f_14))) (l_14:K.lookup f_14=some ⟨oc_14,od_14,.func (W.fnOf "show_numbers" "show_numbers" (qak qa8) (qaj qa8) (qab qa8) .none kV_14 dc_14 pm_14 an_14 cd_14 ct_14),sl_14⟩) (c_14:W.codeIn K cd_14 "show_numbers" = true) (k_14:W.keepIn K (.ref f_14)=true)
   (a_01:W.nsIn K mainGlobals "show_word_and_sets" = some (some (.ref f_01))) (l_01:K.lookup f_01=some ⟨oc_01,od_01,.func (W.fnOf "show_word_and_sets" "show_word_and_sets" (qak qaD) (qaj qaD) (qab qaD) .none kV_01 dc_01 pm_01 an_01 cd_01 ct_01),sl_01⟩) (c_01:W.codeIn K cd_01 "show_word_and_sets" = true) (k_01:W.keepIn K (.ref f_01)=true)
   (a_22:W.nsIn K mainGlobals "show_looked" = some (some (.ref f_22))) (l_22:K.lookup f_22=some ⟨oc_22,od_22,.func (W.fnOf "show_looked" "show_looked" (qak qbj) (qaj qbj) (qab qbj) .none kV_22 dc_22 pm_22 an_22 cd_22 ct_22),sl_22⟩) (c_22:W.codeIn K cd_22 "show_looked" = true) (k_22:W.keepIn K (.ref f_22)=true)
   (a_62:W.nsIn K mainGlobals "ranked" = some (some (.ref f_62))) (l_62:K.lookup f_62=some ⟨oc_62,od_62,.func (W.fnOf "ranked" "ranked" (qak qdf) (qaj qdf) (qab qdf) .none kV_62 dc_62 pm_62 an_62 cd_62 ct_62),sl_62⟩) (c_62:W.codeIn K cd_62 "ranked" = true) (k_62:W.keepIn K (.ref f_62)=true)
   (a_69:W.nsIn K mainGlobals "ranks" = some (some (.ref f_69))) (l_69:K.lookup f_69=some ⟨oc_69,od_69,.func (W.fnOf "ranks" "ranks" (qak qd0) (qaj qd0) (qab qd0) .none kV_69 dc_69 pm_69 an_69 cd_69 ct_69),sl_69⟩) (c_69:W.codeIn K cd_69 "ranks" = true) (k_69:W.keepIn K (.ref f_69)=true)
   (a_27:W.nsIn K mainGlobals "show_alike" = some (some (.ref f_27))) (l_27:K.lookup f_27=some ⟨oc_27,od_27,.func (W.fnOf "show_alike" "show_alike" (qak qbD) (qaj qbD) (qab qbD) .none kV_27 dc_27 pm_27 an_27 cd_27 ct_27),sl_27⟩) (c_27:W.codeIn K cd_27 "show_alike" = true) (k_27:W.keepIn K (.ref f_27)=true)
   (a_28:W.nsIn K mainGlobals "show_ranks" = some (some (.ref f_28))) (l_28:K.lookup f_28=some ⟨oc_28,od_28,.func (W.fnOf "show_ranks" "show_ranks" (qak qbC) (qaj qbC) (qab qbC) .none kV_28 dc_28 pm_28 an_28 cd_28 ct_28),sl_28⟩) (c_28:W.codeIn K cd_28 "show_ranks" = true) (k_28:W.keepIn K (.ref f_28)=true)
   (a_40:W.nsIn K mainGlobals "weight_of" = some (some (.ref f_40))) (l_40:K.lookup f_40=some ⟨oc_40,od_40,.func (W.fnOf "weight_of" "weight_of" (qak qbQ) (qaj qbQ) (qab qbQ) .none kV_40 dc_40 pm_40 an_40 cd_40 ct_40),sl_40⟩) (c_40:W.codeIn K cd_40 "weight_of" = true) (k_40:W.keepIn K (.ref f_40)=true)
   (a_63:W.nsIn K mainGlobals "traded" = some (some (.ref f_63))) (l_63:K.lookup f_63=some ⟨oc_63,od_63,.func (W.fnOf "traded" "traded" (qak qc6) (qaj qc6) (qab qc6) .none kV_63 dc_63 pm_63 an_63 cd_63 ct_63),sl_63⟩) (c_63:W.codeIn K cd_63 "traded" = true) (k_63:W.keepIn K (.ref f_63)=true)
   (a_23:W.nsIn K mainGlobals "bar_between" = some (some (.ref f_23))) (l_23:K.lookup f_23=some ⟨oc_23,od_23,.func (W.fnOf "bar_between" "bar_between" (qak qbn) (qaj qbn) (qab qbn) .none kV_23 dc_23 pm_23 an_23 cd_23 ct_23),sl_23⟩) (c_23:W.codeIn K cd_23 "bar_between" = true) (k_23:W.keepIn K (.ref f_23)=true)
   (a_08:W.nsIn K mainGlobals "falling_lists" = some (some (.ref f_08))) (l_08:K.lookup f_08=some ⟨oc_08,od_08,.func (W.fnOf "falling_lists" "falling_lists" (qak qa2) (qaj qa2) (qab qa2) .none kV_08 dc_08 pm_08 an_08 cd_08 ct_08),sl_08⟩) (c_08:W.codeIn K cd_08 "falling_lists" = true) (k_08:W.keepIn K (.ref f_08)=true)
   (a_41:W.nsIn K mainGlobals "given_out" = some (some (.ref f_41))) (l_41:K.lookup f_41=some ⟨oc_41,od_41,.func (W.fnOf "given_out" "given_out" (qak qbW) (qaj qbW) (qab qbW) .none kV_41 dc_41 pm_41 an_41 cd_41 ct_41),sl_41⟩) (c_41:W.codeIn K cd_41 "given_out" = true) (k_41:W.keepIn K (.ref f_41)=true)
   (a_56:W.nsIn K mainGlobals "weighed" = some (some (.ref f_56))) (l_56:K.lookup f_56=some ⟨oc_56,od_56,.func (W.fnOf "weighed" "weighed" (qak qcw) (qaj qcw) (qab qcw) .none kV_56 dc_56 pm_56 an_56 cd_56 ct_56),sl_56⟩) (c_56:W.codeIn K cd_56 "weighed" = true) (k_56:W.keepIn K (.ref f_56)=true)
   (a_15:W.nsIn K mainGlobals "show_weights" = some (some (.ref f_15))) (l_15:K.lookup f_15=some ⟨oc_15,od_15,.func (W.fnOf "show_weights" "show_weights" (qak qa9) (qaj qa9) (qab qa9) .none kV_15 dc_15 pm_15 an_15 cd_15 ct_15),sl_15⟩) (c_15:W.codeIn K cd_15 "show_weights" = true) (k_15:W.keepIn K (.ref f_15)=true)
   (a_29:W.nsIn K mainGlobals "by_weights" = some (some (.ref f_29))) (l_29:K.lookup f_29=some ⟨oc_29,od_29,.func (W.fnOf "by_weights" "by_weights" (qak qbA) (qaj qbA) (qab qbA) .none kV_29 dc_29 pm_29 an_29 cd_29 ct_29),sl_29⟩) (c_29:W.codeIn K cd_29 "by_weights" = true) (k_29:W.keepIn K (.ref f_29)=true)
   (a_03:W.nsIn K mainGlobals "compared_unlike" = some (some (.ref f_03))) (l_03:K.lookup f_03=some ⟨oc_03,od_03,.func (W.fnOf "compared_unlike" "compared_unlike" (qak qaL) (qaj qaL) (qab qaL) .none kV_03 dc_03 pm_03 an_03 cd_03 ct_03),sl_03⟩) (c_03:W.codeIn K cd_03 "compared_unlike" = true) (k_03:W.keepIn K (.ref f_03)=true)
   (a_50:W.nsIn K mainGlobals "new_name" = some (some (.ref f_50))) (l_50:K.lookup f_50=some ⟨oc_50,od_50,.func (W.fnOf "new_name" "new_name" (qak qcc) (qaj qcc) (qab qcc) .none kV_50 dc_50 pm_50 an_50 cd_50 ct_50),sl_50⟩) (c_50:W.codeIn K cd_50 "new_name" = true) (k_50:W.keepIn K (.ref f_50)=true)
   (a_51:W.nsIn K mainGlobals "parts_of" = some (some (.ref f_51))) (l_51:K.lookup f_51=some ⟨oc_51,od_51,.func (W.fnOf "parts_of" "parts_of" (qak qb9) (qaj qb9) (qab qb9) .none kV_51 dc_51 pm_51 an_51 cd_51 ct_51),sl_51⟩) (c_51:W.codeIn K cd_51 "parts_of" = true) (k_51:W.keepIn K (.ref f_51)=true)
   (a_09:W.findIn K (.ref cD) "__init__" = some (some (.ref f_09))) (i_09:W.isFn K (.ref f_09)=true) (l_09:K.lookup f_09=some ⟨oc_09,od_09,.func (W.fnOf "__init__" "Desk.__init__" (qak qaX) (qaj qaX) (qab qaX) .none kV_09 dc_09 pm_09 an_09 cd_09 ct_09),sl_09⟩) (c_09:W.codeIn K cd_09 "Desk.__init__" = true) (k_09:W.keepIn K (.ref f_09)=true)
   (a_05:W.findIn K (.ref cD) "family_by" = some (some (.ref f_05))) (i_05:W.isFn K (.ref f_05)=true) (l_05:K.lookup f_05=some ⟨oc_05,od_05,.func (W.fnOf "family_by" "Desk.family_by" (qak qaS) (qaj qaS) (qab qaS) .none kV_05 dc_05 pm_05 an_05 cd_05 ct_05),sl_05⟩) (c_05:W.codeIn K cd_05 "Desk.family_by" = true) (k_05:W.keepIn K (.ref f_05)=true)
   (a_02:W.findIn K (.ref cD) "look_for_room" = some (some (.ref f_02))) (i_02:W.isFn K (.ref f_02)=true) (l_02:K.lookup f_02=some ⟨oc_02,od_02,.func (W.fnOf "look_for_room" "Desk.look_for_room" (qak qaC) (qaj qaC) (qab qaC) .none kV_02 dc_02 pm_02 an_02 cd_02 ct_02),sl_02⟩) (c_02:W.codeIn K cd_02 "Desk.look_for_room" = true) (k_02:W.keepIn K (.ref f_02)=true)
   (a_10:W.findIn K (.ref cD) "thing_of" = some (some (.ref f_10))) (i_10:W.isFn K (.ref f_10)=true) (l_10:K.lookup f_10=some ⟨oc_10,od_10,.func (W.fnOf "thing_of" "Desk.thing_of" (qak qa3) (qaj qa3) (qab qa3) .none kV_10 dc_10 pm_10 an_10 cd_10 ct_10),sl_10⟩) (c_10:W.codeIn K cd_10 "Desk.thing_of" = true) (k_10:W.keepIn K (.ref f_10)=true)
   (a_75:W.nsIn K mainGlobals "made" = some (some (.ref f_75))) (l_75:K.lookup f_75=some ⟨oc_75,od_75,.func (W.fnOf "made" "made" (qak qgb) (qaj qgb) (qab qgb) .none kV_75 dc_75 pm_75 an_75 cd_75 ct_75),sl_75⟩) (c_75:W.codeIn K cd_75 "made" = true) (k_75:W.keepIn K (.ref f_75)=true)
   (a_52:W.nsIn K mainGlobals "answered" = some (some (.ref f_52))) (l_52:K.lookup f_52=some ⟨oc_52,od_52,.func (W.fnOf "answered" "answered" (qak qb4) (qaj qb4) (qab qb4) .none kV_52 dc_52 pm_52 an_52 cd_52 ct_52),sl_52⟩) (c_52:W.codeIn K cd_52 "answered" = true) (k_52:W.keepIn K (.ref f_52)=true)
   (a_53:W.findIn K (.ref cD) "say" = some (some (.ref f_53))) (i_53:W.isFn K (.ref f_53)=true) (l_53:K.lookup f_53=some ⟨oc_53,od_53,.func (W.fnOf "say" "Desk.say" (qak qb5) (qaj qb5) (qab qb5) .none kV_53 dc_53 pm_53 an_53 cd_53 ct_53),sl_53⟩) (c_53:W.codeIn K cd_53 "Desk.say" = true) (k_53:W.keepIn K (.ref f_53)=true)
   (a_42:W.nsIn K mainGlobals "_law_kind" = some (some (.ref f_42))) (l_42:K.lookup f_42=some ⟨oc_42,od_42,.func (W.fnOf "_law_kind" "_law_kind" (qak qbM) (qaj qbM) (qab qbM) .none kV_42 dc_42 pm_42 an_42 cd_42 ct_42),sl_42⟩) (c_42:W.codeIn K cd_42 "_law_kind" = true) (k_42:W.keepIn K (.ref f_42)=true)
   (a_16:W.nsIn K mainGlobals "_law_refusal" = some (some (.ref f_16))) (l_16:K.lookup f_16=some ⟨oc_16,od_16,.func (W.fnOf "_law_refusal" "_law_refusal" (qak qbb) (qaj qbb) (qab qbb) .none kV_16 dc_16 pm_16 an_16 cd_16 ct_16),sl_16⟩) (c_16:W.codeIn K cd_16 "_law_refusal" = true) (k_16:W.keepIn K (.ref f_16)=true)
   (a_30:W.nsIn K mainGlobals "_law_deeds" = some (some (.ref f_30))) (l_30:K.lookup f_30=some ⟨oc_30,od_30,.func (W.fnOf "_law_deeds" "_law_deeds" (qak qbx) (qaj qbx) (qab qbx) .none kV_30 dc_30 pm_30 an_30 cd_30 ct_30),sl_30⟩) (c_30:W.codeIn K cd_30 "_law_deeds" = true) (k_30:W.keepIn K (.ref f_30)=true)
   (a_11:W.nsIn K mainGlobals "_law_families" = some (some (.ref f_11))) (l_11:K.lookup f_11=some ⟨oc_11,od_11,.func (W.fnOf "_law_families" "_law_families" (qak qaW) (qaj qaW) (qab qaW) .none kV_11 dc_11 pm_11 an_11 cd_11 ct_11),sl_11⟩) (c_11:W.codeIn K cd_11 "_law_families" = true) (k_11:W.keepIn K (.ref f_11)=true)
   (a_31:W.nsIn K mainGlobals "_law_texts" = some (some (.ref f_31))) (l_31:K.lookup f_31=some ⟨oc_31,od_31,.func (W.fnOf "_law_texts" "_law_texts" (qak qbB) (qaj qbB) (qab qbB) .none kV_31 dc_31 pm_31 an_31 cd_31 ct_31),sl_31⟩) (c_31:W.codeIn K cd_31 "_law_texts" = true) (k_31:W.keepIn K (.ref f_31)=true)
   (a_32:W.nsIn K mainGlobals "_law_wrong" = some (some (.ref f_32))) (l_32:K.lookup f_32=some ⟨oc_32,od_32,.func (W.fnOf "_law_wrong" "_law_wrong" (qak qbu) (qaj qbu) (qab qbu) .none kV_32 dc_32 pm_32 an_32 cd_32 ct_32),sl_32⟩) (c_32:W.codeIn K cd_32 "_law_wrong" = true) (k_32:W.keepIn K (.ref f_32)=true)
   (a_17:W.nsIn K mainGlobals "_law_no_desk" = some (some (.ref f_17))) (l_17:K.lookup f_17=some ⟨oc_17,od_17,.func (W.fnOf "_law_no_desk" "_law_no_desk" (qak qbc) (qaj qbc) (qab qbc) .none kV_17 dc_17 pm_17 an_17 cd_17 ct_17),sl_17⟩) (c_17:W.codeIn K cd_17 "_law_no_desk" = true) (k_17:W.keepIn K (.ref f_17)=true)
   (a_12:W.nsIn K mainGlobals "_law_no_names" = some (some (.ref f_12))) (l_12:K.lookup f_12=some ⟨oc_12,od_12,.func (W.fnOf "_law_no_names" "_law_no_names" (qak qaZ) (qaj qaZ) (qab qaZ) .none kV_12 dc_12 pm_12 an_12 cd_12 ct_12),sl_12⟩) (c_12:W.codeIn K cd_12 "_law_no_names" = true) (k_12:W.keepIn K (.ref f_12)=true)
   (a_law:W.nsIn K mainGlobals "law" = some (some (.ref f_law))) (l_law:K.lookup f_law=some ⟨oc_law,od_law,.func (W.fnOf "law" "law" (qak qgT) (qaj qgT) (qab qgT) .none kV_law dc_law pm_law an_law cd_law ct_law),sl_law⟩) (c_law:W.codeIn K cd_law "law" = true) (k_law:W.keepIn K (.ref f_law)=true)
   (z_isinstance:W.nsIn K mainGlobals "isinstance" = some none)
   (z_int:W.nsIn K mainGlobals "int" = some none)
   (z_bool:W.nsIn K mainGlobals "bool" = some none)
   (z_len:W.nsIn K mainGlobals "len" = some none)
   (z_range:W.nsIn K mainGlobals "range" = some none)
   (z_sorted:W.nsIn K mainGlobals "sorted" = some none)
   (z_set:W.nsIn K mainGlobals "set" = some none)
   (z_list:W.nsIn K mainGlobals "list" = some none)
   (z_str:W.nsIn K mainGlobals "str" = some none)
   (z_all:W.nsIn K mainGlobals "all" = some none)
   (z_zip:W.nsIn K mainGlobals "zip" = some none)
   (z_ValueError:W.nsIn K mainGlobals "ValueError" = some none)
   {t_MOST_SETS:Tok} (v_MOST_SETS:W.nsIn K mainGlobals "MOST_SETS" = some (some (.int 70 t_MOST_SETS)))
   {t_MOST_LETTERS:Tok} (v_MOST_LETTERS:W.nsIn K mainGlobals "MOST_LETTERS" = some (some (.int 8 t_MOST_LETTERS)))
   {t_MOST_NAMES:Tok} (v_MOST_NAMES:W.nsIn K mainGlobals "MOST_NAMES" = some (some (.int 8 t_MOST_NAMES)))
   {t_NO_SETS:Tok} (v_NO_SETS:W.nsIn K mainGlobals "NO_SETS" = some (some (.str "none" (t_NO_SETS+1))))
   {t_NO_NAMES:Tok} (v_NO_NAMES:W.nsIn K mainGlobals "NO_NAMES" = some (some (.str "-" (t_NO_NAMES+1))))
   {t_MOST_VOTERS:Tok} (v_MOST_VOTERS:W.nsIn K mainGlobals "MOST_VOTERS" = some (some (.int 5 t_MOST_VOTERS)))
   {t_MOST_KEPT:Tok} (v_MOST_KEPT:W.nsIn K mainGlobals "MOST_KEPT" = some (some (.int 20 t_MOST_KEPT)))
   {tW1 tW2 tW3 tW4 tW5 tW6 tW7 tW8 tW9 tW10 tW11 tW12 tW13 tW14 tW15:Addr} {hW1 hW2 hW3 hW4 hW5 hW6 hW7 hW8 hW9 hW10 hW11 hW12 hW13 hW14 hW15:Int} {kW1 kW2 kW3 kW4 kW5 kW6 kW7 kW8 kW9 kW10 kW11 kW12 kW13 kW14 kW15:Tok} {ep:Nat} (gD:W.nsIn K mainGlobals "Desk" = some (some (.ref cD))) (gW:W.nsIn K mainGlobals "WANTED" = some (some (.ref aW))) (lW:K.lookup aW=some ⟨.type "dict",none,.dict #[⟨hW1,.str "let" kW1,.ref tW1⟩,⟨hW2,.str "hits" kW2,.ref tW2⟩,⟨hW3,.str "rests" kW3,.ref tW3⟩,⟨hW4,.str "either" kW4,.ref tW4⟩,⟨hW5,.str "both" kW5,.ref tW5⟩,⟨hW6,.str "in" kW6,.ref tW6⟩,⟨hW7,.str "out" kW7,.ref tW7⟩,⟨hW8,.str "show" kW8,.ref tW8⟩,⟨hW9,.str "says" kW9,.ref tW9⟩,⟨hW10,.str "look" kW10,.ref tW10⟩,⟨hW11,.str "held" kW11,.ref tW11⟩,⟨hW12,.str "compare" kW12,.ref tW12⟩,⟨hW13,.str "turns" kW13,.ref tW13⟩,⟨hW14,.str "ranks" kW14,.ref tW14⟩,⟨hW15,.str "weights" kW15,.ref tW15⟩] ep,#[]⟩) (nW:(aW==sysModules)=false)
   {oW1:Option Addr} {nn1:Nat} {sW1:Array (Option Value)} {u1_0 u1_1:Tok} (eW1:hW1=hashStr w "let") (lW1:K.lookup tW1=some ⟨.type "tuple",oW1,.seq #[.str "new" (u1_0+1),.str "text" (u1_1+1)] nn1,sW1⟩)
   {oW2:Option Addr} {nn2:Nat} {sW2:Array (Option Value)} {u2_0 u2_1:Tok} (eW2:hW2=hashStr w "hits") (lW2:K.lookup tW2=some ⟨.type "tuple",oW2,.seq #[.str "new" (u2_0+1),.str "family" (u2_1+1)] nn2,sW2⟩)
   {oW3:Option Addr} {nn3:Nat} {sW3:Array (Option Value)} {u3_0 u3_1:Tok} (eW3:hW3=hashStr w "rests") (lW3:K.lookup tW3=some ⟨.type "tuple",oW3,.seq #[.str "new" (u3_0+1),.str "family" (u3_1+1)] nn3,sW3⟩)
   {oW4:Option Addr} {nn4:Nat} {sW4:Array (Option Value)} {u4_0 u4_1 u4_2:Tok} (eW4:hW4=hashStr w "either") (lW4:K.lookup tW4=some ⟨.type "tuple",oW4,.seq #[.str "new" (u4_0+1),.str "family" (u4_1+1),.str "family" (u4_2+1)] nn4,sW4⟩)
   {oW5:Option Addr} {nn5:Nat} {sW5:Array (Option Value)} {u5_0 u5_1 u5_2:Tok} (eW5:hW5=hashStr w "both") (lW5:K.lookup tW5=some ⟨.type "tuple",oW5,.seq #[.str "new" (u5_0+1),.str "family" (u5_1+1),.str "family" (u5_2+1)] nn5,sW5⟩)
   {oW6:Option Addr} {nn6:Nat} {sW6:Array (Option Value)} {u6_0 u6_1 u6_2:Tok} (eW6:hW6=hashStr w "in") (lW6:K.lookup tW6=some ⟨.type "tuple",oW6,.seq #[.str "new" (u6_0+1),.str "family" (u6_1+1),.str "name" (u6_2+1)] nn6,sW6⟩)
   {oW7:Option Addr} {nn7:Nat} {sW7:Array (Option Value)} {u7_0 u7_1 u7_2:Tok} (eW7:hW7=hashStr w "out") (lW7:K.lookup tW7=some ⟨.type "tuple",oW7,.seq #[.str "new" (u7_0+1),.str "family" (u7_1+1),.str "name" (u7_2+1)] nn7,sW7⟩)
   {oW8:Option Addr} {nn8:Nat} {sW8:Array (Option Value)} {u8_0:Tok} (eW8:hW8=hashStr w "show") (lW8:K.lookup tW8=some ⟨.type "tuple",oW8,.seq #[.str "family" (u8_0+1)] nn8,sW8⟩)
   {oW9:Option Addr} {nn9:Nat} {sW9:Array (Option Value)} {u9_0 u9_1:Tok} (eW9:hW9=hashStr w "says") (lW9:K.lookup tW9=some ⟨.type "tuple",oW9,.seq #[.str "family" (u9_0+1),.str "set" (u9_1+1)] nn9,sW9⟩)
   {oW10:Option Addr} {nn10:Nat} {sW10:Array (Option Value)} {u10_0 u10_1:Tok} (eW10:hW10=hashStr w "look") (lW10:K.lookup tW10=some ⟨.type "tuple",oW10,.seq #[.str "family" (u10_0+1),.str "set" (u10_1+1)] nn10,sW10⟩)
   {oW11:Option Addr} {nn11:Nat} {sW11:Array (Option Value)} {u11_0 u11_1:Tok} (eW11:hW11=hashStr w "held") (lW11:K.lookup tW11=some ⟨.type "tuple",oW11,.seq #[.str "family" (u11_0+1),.str "family" (u11_1+1)] nn11,sW11⟩)
   {oW12:Option Addr} {nn12:Nat} {sW12:Array (Option Value)} {u12_0 u12_1 u12_2:Tok} (eW12:hW12=hashStr w "compare") (lW12:K.lookup tW12=some ⟨.type "tuple",oW12,.seq #[.str "family" (u12_0+1),.str "name" (u12_1+1),.str "name" (u12_2+1)] nn12,sW12⟩)
   {oW13:Option Addr} {nn13:Nat} {sW13:Array (Option Value)} {u13_0:Tok} (eW13:hW13=hashStr w "turns") (lW13:K.lookup tW13=some ⟨.type "tuple",oW13,.seq #[.str "family" (u13_0+1)] nn13,sW13⟩)
   {oW14:Option Addr} {nn14:Nat} {sW14:Array (Option Value)} {u14_0:Tok} (eW14:hW14=hashStr w "ranks") (lW14:K.lookup tW14=some ⟨.type "tuple",oW14,.seq #[.str "family" (u14_0+1)] nn14,sW14⟩)
   {oW15:Option Addr} {nn15:Nat} {sW15:Array (Option Value)} {u15_0:Tok} (eW15:hW15=hashStr w "weights") (lW15:K.lookup tW15=some ⟨.type "tuple",oW15,.seq #[.str "family" (u15_0+1)] nn15,sW15⟩)
   (pgD:W.plainGet K cD Str.empty=true) (hdD:W.hasDictIn K cD=true) (poD:W.plainOver K cD=true) (saD:W.findIn K (.ref cD) "__setattr__" = some (some (.builtin "object.__setattr__"))) (nwD:W.findIn K (.ref cD) "words" = some none) (nkD:W.findIn K (.ref cD) "kept" = some none) (mkD:W.makesIn K cD=true) (kpD:W.keepIn K (.ref cD)=true)
   (gX:W.nsIn K mainGlobals "NoText" = some (some (.ref cX))) (gN:W.nsIn K mainGlobals "NoFamily" = some (some (.ref cN))) (gF:W.nsIn K mainGlobals "Full" = some (some (.ref cF))) (gH:W.nsIn K mainGlobals "HitError" = some (some (.ref cH))) (gO:W.nsIn K mainGlobals "NoDeed" = some (some (.ref cO))) (gM:W.nsIn K mainGlobals "TooMany" = some (some (.ref cM))) (xX:W.excIn K cX [.type "ValueError",.type "Exception",.type "BaseException",.type "object"] "ValueError.__new__" = true) (xN:W.excIn K cN [.type "ValueError",.type "Exception",.type "BaseException",.type "object"] "ValueError.__new__" = true) (xF:W.excIn K cF [.type "ValueError",.type "Exception",.type "BaseException",.type "object"] "ValueError.__new__" = true) (xH:W.excIn K cH [.type "ValueError",.type "Exception",.type "BaseException",.type "object"] "ValueError.__new__" = true) (xO:W.excIn K cO [.type "ValueError",.type "Exception",.type "BaseException",.type "object"] "ValueError.__new__" = true) (xM:W.excIn K cM [.type "ValueError",.type "Exception",.type "BaseException",.type "object"] "ValueError.__new__" = true) (eH:W.subIn K (.ref cH) (.type "BaseException")=some true)
   (hX:W.subIn K (.ref cX) (.ref cH)=some true) (pX:W.findIn K (.ref cX) "__getattribute__" = some (some (.builtin "BaseException.__getattribute__"))) (qX:W.findIn K (.ref cX) "__getattr__" = some none) (rX:W.findIn K (.ref cX) "__class__" = some (some (.builtin "object.__class__"))) (bX:W.subIn K (.ref cX) (.type "BaseException")=some true) (oX:W.subIn K (.ref cX) (.type "object")=some true) (vX:W.subIn K (.ref cX) (.type "ValueError")=some true) (sXN:W.subIn K (.ref cX) (.ref cN)=some false) (dXN:(cX==cN)=false) (sXO:W.subIn K (.ref cX) (.ref cO)=some false) (dXO:(cX==cO)=false) (sXM:W.subIn K (.ref cX) (.ref cM)=some false) (dXM:(cX==cM)=false) (sXF:W.subIn K (.ref cX) (.ref cF)=some false) (dXF:(cX==cF)=false)
   (hN:W.subIn K (.ref cN) (.ref cH)=some true) (pN:W.findIn K (.ref cN) "__getattribute__" = some (some (.builtin "BaseException.__getattribute__"))) (qN:W.findIn K (.ref cN) "__getattr__" = some none) (rN:W.findIn K (.ref cN) "__class__" = some (some (.builtin "object.__class__"))) (bN:W.subIn K (.ref cN) (.type "BaseException")=some true) (oN:W.subIn K (.ref cN) (.type "object")=some true) (vN:W.subIn K (.ref cN) (.type "ValueError")=some true) (sNX:W.subIn K (.ref cN) (.ref cX)=some false) (dNX:(cN==cX)=false) (sNO:W.subIn K (.ref cN) (.ref cO)=some false) (dNO:(cN==cO)=false) (sNM:W.subIn K (.ref cN) (.ref cM)=some false) (dNM:(cN==cM)=false) (sNF:W.subIn K (.ref cN) (.ref cF)=some false) (dNF:(cN==cF)=false)
   (hO:W.subIn K (.ref cO) (.ref cH)=some true) (pO:W.findIn K (.ref cO) "__getattribute__" = some (some (.builtin "BaseException.__getattribute__"))) (qO:W.findIn K (.ref cO) "__getattr__" = some none) (rO:W.findIn K (.ref cO) "__class__" = some (some (.builtin "object.__class__"))) (bO:W.subIn K (.ref cO) (.type "BaseException")=some true) (oO:W.subIn K (.ref cO) (.type "object")=some true) (vO:W.subIn K (.ref cO) (.type "ValueError")=some true) (sOX:W.subIn K (.ref cO) (.ref cX)=some false) (dOX:(cO==cX)=false) (sON:W.subIn K (.ref cO) (.ref cN)=some false) (dON:(cO==cN)=false) (sOM:W.subIn K (.ref cO) (.ref cM)=some false) (dOM:(cO==cM)=false) (sOF:W.subIn K (.ref cO) (.ref cF)=some false) (dOF:(cO==cF)=false)
   (hM:W.subIn K (.ref cM) (.ref cH)=some true) (pM:W.findIn K (.ref cM) "__getattribute__" = some (some (.builtin "BaseException.__getattribute__"))) (qM:W.findIn K (.ref cM) "__getattr__" = some none) (rM:W.findIn K (.ref cM) "__class__" = some (some (.builtin "object.__class__"))) (bM:W.subIn K (.ref cM) (.type "BaseException")=some true) (oM:W.subIn K (.ref cM) (.type "object")=some true) (vM:W.subIn K (.ref cM) (.type "ValueError")=some true) (sMX:W.subIn K (.ref cM) (.ref cX)=some false) (dMX:(cM==cX)=false) (sMN:W.subIn K (.ref cM) (.ref cN)=some false) (dMN:(cM==cN)=false) (sMO:W.subIn K (.ref cM) (.ref cO)=some false) (dMO:(cM==cO)=false) (sMF:W.subIn K (.ref cM) (.ref cF)=some false) (dMF:(cM==cF)=false)
   {cdX:ClassData} (tX:W.typeIn K (.ref cX)=some (.type "type")) (kX:W.clsIn K cX=some cdX)
   {cdN:ClassData} (tN:W.typeIn K (.ref cN)=some (.type "type")) (kN:W.clsIn K cN=some cdN)
   {cdF:ClassData} (tF:W.typeIn K (.ref cF)=some (.type "type")) (kF:W.clsIn K cF=some cdF)
   {cdO:ClassData} (tO:W.typeIn K (.ref cO)=some (.type "type")) (kO:W.clsIn K cO=some cdO)
   {cdM:ClassData} (tM:W.typeIn K (.ref cM)=some (.type "type")) (kM:W.clsIn K cM=some cdM)
   {oS:Obj} (uS:K.lookup cStatics=some oS) (uE:qp9 oS=true) (u2:W.nsIn K cStatics sharingNotToldKey=some none) :
   ∃fd:FuncData,(∀(s:Shared) (v:Value),BindsTo s fd ⟨[v],[]⟩ [("_law_script",v)])/\fd.scope.names.lookup ("_law_script" : Str)=some .local/\∀base:Heap,K.In base->base.Ns mainGlobals mg->qaM l.prog w K mg base CX0 8 fa fd ["_law_script"] ((qme K)):=by
 have e:=hfa.symm.trans (W.mg_of X G a_law)
 cases e
 have T:Txt mg:=⟨W.mg_none_of X G z_isinstance,W.mg_none_of X G z_int,W.mg_none_of X G z_bool,W.mg_none_of X G z_len,W.mg_none_of X G z_range,W.mg_none_of X G z_sorted,W.mg_none_of X G z_set,W.mg_none_of X G z_list,W.mg_none_of X G z_str,W.mg_none_of X G z_all,W.mg_none_of X G z_zip,W.mg_none_of X G z_ValueError,⟨_,W.mg_of X G v_MOST_SETS⟩,⟨_,W.mg_of X G v_MOST_LETTERS⟩,⟨_,W.mg_of X G v_MOST_NAMES⟩,⟨_,W.mg_of X G v_NO_SETS⟩,⟨_,W.mg_of X G v_NO_NAMES⟩,⟨_,W.mg_of X G v_MOST_VOTERS⟩,⟨_,W.mg_of X G v_MOST_KEPT⟩⟩
 have EW:qst K w qhL [⟨hW1,.str "let" kW1,.ref tW1⟩,⟨hW2,.str "hits" kW2,.ref tW2⟩,⟨hW3,.str "rests" kW3,.ref tW3⟩,⟨hW4,.str "either" kW4,.ref tW4⟩,⟨hW5,.str "both" kW5,.ref tW5⟩,⟨hW6,.str "in" kW6,.ref tW6⟩,⟨hW7,.str "out" kW7,.ref tW7⟩,⟨hW8,.str "show" kW8,.ref tW8⟩,⟨hW9,.str "says" kW9,.ref tW9⟩,⟨hW10,.str "look" kW10,.ref tW10⟩,⟨hW11,.str "held" kW11,.ref tW11⟩,⟨hW12,.str "compare" kW12,.ref tW12⟩,⟨hW13,.str "turns" kW13,.ref tW13⟩,⟨hW14,.str "ranks" kW14,.ref tW14⟩,⟨hW15,.str "weights" kW15,.ref tW15⟩]:=⟨⟨_,_,by rw [eW1],qck lW1 (by simp) (.cons ⟨_,rfl⟩ (.cons ⟨_,rfl⟩ .nil))⟩,⟨_,_,by rw [eW2],qck lW2 (by simp) (.cons ⟨_,rfl⟩ (.cons ⟨_,rfl⟩ .nil))⟩,⟨_,_,by rw [eW3],qck lW3 (by simp) (.cons ⟨_,rfl⟩ (.cons ⟨_,rfl⟩ .nil))⟩,⟨_,_,by rw [eW4],qck lW4 (by simp) (.cons ⟨_,rfl⟩ (.cons ⟨_,rfl⟩ (.cons ⟨_,rfl⟩ .nil)))⟩,⟨_,_,by rw [eW5],qck lW5 (by simp) (.cons ⟨_,rfl⟩ (.cons ⟨_,rfl⟩ (.cons ⟨_,rfl⟩ .nil)))⟩,⟨_,_,by rw [eW6],qck lW6 (by simp) (.cons ⟨_,rfl⟩ (.cons ⟨_,rfl⟩ (.cons ⟨_,rfl⟩ .nil)))⟩,⟨_,_,by rw [eW7],qck lW7 (by simp) (.cons ⟨_,rfl⟩ (.cons ⟨_,rfl⟩ (.cons ⟨_,rfl⟩ .nil)))⟩,⟨_,_,by rw [eW8],qck lW8 (by simp) (.cons ⟨_,rfl⟩ .nil)⟩,⟨_,_,by rw [eW9],qck lW9 (by simp) (.cons ⟨_,rfl⟩ (.cons ⟨_,rfl⟩ .nil))⟩,⟨_,_,by rw [eW10],qck lW10 (by simp) (.cons ⟨_,rfl⟩ (.cons ⟨_,rfl⟩ .nil))⟩,⟨_,_,by rw [eW11],qck lW11 (by simp) (.cons ⟨_,rfl⟩ (.cons ⟨_,rfl⟩ .nil))⟩,⟨_,_,by rw [eW12],qck lW12 (by simp) (.cons ⟨_,rfl⟩ (.cons ⟨_,rfl⟩ (.cons ⟨_,rfl⟩ .nil)))⟩,⟨_,_,by rw [eW13],qck lW13 (by simp) (.cons ⟨_,rfl⟩ .nil)⟩,⟨_,_,by rw [eW14],qck lW14 (by simp) (.cons ⟨_,rfl⟩ .nil)⟩,⟨_,_,by rw [eW15],qck lW15 (by simp) (.cons ⟨_,rfl⟩ .nil)⟩,trivial⟩
 have Z:Xt l.prog w K mg cD aW cX cN cF cH cO cM:=⟨W.mg_of X G gD,⟨pgD,hdD,poD,saD⟩,nwD,nkD,W.mg_of X G gW,qrQ lW nW EW,W.mg_of X G gX,W.mg_of X G gN,W.mg_of X G gF,W.mg_of X G gH,W.mg_of X G gO,W.mg_of X G gM,xX,xN,xF,xH,xO,xM,eH,(qem (hX) (hN) (hO) (hM)),(qem (⟨⟨_,_,xX⟩,pX,qX,rX,bX,oX⟩) (⟨⟨_,_,xN⟩,pN,qN,rN,bN,oN⟩) (⟨⟨_,_,xO⟩,pO,qO,rO,bO,oO⟩) (⟨⟨_,_,xM⟩,pM,qM,rM,bM,oM⟩)),(qem (qeH (by decide +kernel) vX) (qeH (by decide +kernel) vN) (qeH (by decide +kernel) vO) (qeH (by decide +kernel) vM)),(qem (qbp kF tF dXF sXF) (qbp kF tF dNF sNF) (qbp kF tF dOF sOF) (qbp kF tF dMF sMF)),(qem (by rw [decide_eq_true rfl];exact qeQ) (by rw [decide_eq_false (by simpa using dNX)];exact qbp kX tX dNX sNX) (by rw [decide_eq_false (by simpa using dOX)];exact qbp kX tX dOX sOX) (by rw [decide_eq_false (by simpa using dMX)];exact qbp kX tX dMX sMX)),(qem (by rw [decide_eq_false (by simpa using dXN)];exact qbp kN tN dXN sXN) (by rw [decide_eq_true rfl];exact qeQ) (by rw [decide_eq_false (by simpa using dON)];exact qbp kN tN dON sON) (by rw [decide_eq_false (by simpa using dMN)];exact qbp kN tN dMN sMN)),(qem (by rw [decide_eq_false (by simpa using dXO)];exact qbp kO tO dXO sXO) (by rw [decide_eq_false (by simpa using dNO)];exact qbp kO tO dNO sNO) (by rw [decide_eq_true rfl];exact qeQ) (by rw [decide_eq_false (by simpa using dMO)];exact qbp kO tO dMO sMO)),(qem (by rw [decide_eq_false (by simpa using dXM)];exact qbp kM tM dXM sXM) (by rw [decide_eq_false (by simpa using dNM)];exact qbp kM tM dNM sNM) (by rw [decide_eq_false (by simpa using dOM)];exact qbp kM tM dOM sOM) (by rw [decide_eq_true rfl];exact qeQ)),(by simpa using dXN),(by simpa using dXO),(by simpa using dXM),(by simpa using dNO),(by simpa using dNM),(by simpa using dOM),qti uS uE,u2⟩
 have F_43:=qan (st:=qb8) l_43 c_43 k_43
 have b_43:=F_43.binds (ps:=["thing"]) fun _ _ _ _ _ _ us hl=>match us,hl with | [_],_=>rfl
 have F_33:=qan (st:=qbL) l_33 c_33 k_33
 have b_33:=F_33.binds (ps:=["_law_script", "_law_k"]) fun _ _ _ _ _ _ us hl=>match us,hl with | [_,_],_=>rfl
 have F_44:=qan (st:=qce) l_44 c_44 k_44
 have b_44:=F_44.binds (ps:=["_law_cell_here", "_law_k"]) fun _ _ _ _ _ _ us hl=>match us,hl with | [_,_],_=>rfl
 have F_34:=qan (st:=qbN) l_34 c_34 k_34
 have b_34:=F_34.binds (ps:=["_law_one"]) fun _ _ _ _ _ _ us hl=>match us,hl with | [_],_=>rfl
 have F_18:=qan (st:=qbl) l_18 c_18 k_18
 have b_18:=F_18.binds (ps:=["_law_script", "_law_start", "_law_many", "_law_most"]) fun _ _ _ _ _ _ us hl=>match us,hl with | [_,_,_,_],_=>rfl
 have F_24:=qan (st:=qbw) l_24 c_24 k_24
 have b_24:=F_24.binds (ps:=["_law_cell_here", "_law_count"]) fun _ _ _ _ _ _ us hl=>match us,hl with | [_,_],_=>rfl
 have F_06:=qan (st:=qa1) l_06 c_06 k_06
 have b_06:=F_06.binds (ps:=["_law_words_here", "_law_one"]) fun _ _ _ _ _ _ us hl=>match us,hl with | [_,_],_=>rfl
 have F_35:=qan (st:=qbV) l_35 c_35 k_35
 have b_35:=F_35.binds (ps:=["_law_words_here", "_law_family_here"]) fun _ _ _ _ _ _ us hl=>match us,hl with | [_,_],_=>rfl
 have F_57:=qan (st:=qda) l_57 c_57 k_57
 have b_57:=F_57.binds (ps:=["many", "thing"]) fun _ _ _ _ _ _ us hl=>match us,hl with | [_,_],_=>rfl
 have F_36:=qan (st:=qbO) l_36 c_36 k_36
 have b_36:=F_36.binds (ps:=["many", "thing"]) fun _ _ _ _ _ _ us hl=>match us,hl with | [_,_],_=>rfl
 have F_45:=qan (st:=qb6) l_45 c_45 k_45
 have b_45:=F_45.binds (ps:=["one"]) fun _ _ _ _ _ _ us hl=>match us,hl with | [_],_=>rfl
 have F_58:=qan (st:=qdd) l_58 c_58 k_58
 have b_58:=F_58.binds (ps:=["names"]) fun _ _ _ _ _ _ us hl=>match us,hl with | [_],_=>rfl
 have F_59:=qan (st:=qc5) l_59 c_59 k_59
 have b_59:=F_59.binds (ps:=["text", "sign"]) fun _ _ _ _ _ _ us hl=>match us,hl with | [_,_],_=>rfl
 have F_54:=qan (st:=qct) l_54 c_54 k_54
 have b_54:=F_54.binds (ps:=["text"]) fun _ _ _ _ _ _ us hl=>match us,hl with | [_],_=>rfl
 have F_25:=qan (st:=qbv) l_25 c_25 k_25
 have b_25:=F_25.binds (ps:=["text"]) fun _ _ _ _ _ _ us hl=>match us,hl with | [_],_=>rfl
 have F_37:=qan (st:=qbR) l_37 c_37 k_37
 have b_37:=F_37.binds (ps:=["words", "word"]) fun _ _ _ _ _ _ us hl=>match us,hl with | [_,_],_=>rfl
 have F_46:=qan (st:=qca) l_46 c_46 k_46
 have b_46:=F_46.binds (ps:=["words", "one"]) fun _ _ _ _ _ _ us hl=>match us,hl with | [_,_],_=>rfl
 have F_19:=qan (st:=qbk) l_19 c_19 k_19
 have b_19:=F_19.binds (ps:=["words", "family"]) fun _ _ _ _ _ _ us hl=>match us,hl with | [_,_],_=>rfl
 have F_47:=qan (st:=qcd) l_47 c_47 k_47
 have b_47:=F_47.binds (ps:=["words", "text"]) fun _ _ _ _ _ _ us hl=>match us,hl with | [_,_],_=>rfl
 have F_20:=qan (st:=qbm) l_20 c_20 k_20
 have b_20:=F_20.binds (ps:=["words", "text"]) fun _ _ _ _ _ _ us hl=>match us,hl with | [_,_],_=>rfl
 have F_64:=qan (st:=qeb) l_64 c_64 k_64
 have b_64:=F_64.binds (ps:=["one", "other"]) fun _ _ _ _ _ _ us hl=>match us,hl with | [_,_],_=>rfl
 have F_65:=qan (st:=qd5) l_65 c_65 k_65
 have b_65:=F_65.binds (ps:=["one", "other"]) fun _ _ _ _ _ _ us hl=>match us,hl with | [_,_],_=>rfl
 have F_70:=qan (st:=qgj) l_70 c_70 k_70
 have b_70:=F_70.binds (ps:=["many", "one"]) fun _ _ _ _ _ _ us hl=>match us,hl with | [_,_],_=>rfl
 have F_71:=qan (st:=qgl) l_71 c_71 k_71
 have b_71:=F_71.binds (ps:=["family", "one"]) fun _ _ _ _ _ _ us hl=>match us,hl with | [_,_],_=>rfl
 have F_66:=qan (st:=qed) l_66 c_66 k_66
 have b_66:=F_66.binds (ps:=["some"]) fun _ _ _ _ _ _ us hl=>match us,hl with | [_],_=>rfl
 have F_67:=qan (st:=qd6) l_67 c_67 k_67
 have b_67:=F_67.binds (ps:=["many", "family"]) fun _ _ _ _ _ _ us hl=>match us,hl with | [_,_],_=>rfl
 have F_13:=qan (st:=qba) l_13 c_13 k_13
 have b_13:=F_13.binds (ps:=["family", "one"]) fun _ _ _ _ _ _ us hl=>match us,hl with | [_,_],_=>rfl
 have F_72:=qan (st:=qf9) l_72 c_72 k_72
 have b_72:=F_72.binds (ps:=["many", "family"]) fun _ _ _ _ _ _ us hl=>match us,hl with | [_,_],_=>rfl
 have F_38:=qan (st:=qbU) l_38 c_38 k_38
 have b_38:=F_38.binds (ps:=["family", "k"]) fun _ _ _ _ _ _ us hl=>match us,hl with | [_,_],_=>rfl
 have F_26:=qan (st:=qbz) l_26 c_26 k_26
 have b_26:=F_26.binds (ps:=["family", "k"]) fun _ _ _ _ _ _ us hl=>match us,hl with | [_,_],_=>rfl
 have F_60:=qan (st:=qc9) l_60 c_60 k_60
 have b_60:=F_60.binds (ps:=["one", "other"]) fun _ _ _ _ _ _ us hl=>match us,hl with | [_,_],_=>rfl
 have F_73:=qan (st:=qf4) l_73 c_73 k_73
 have b_73:=F_73.binds (ps:=["one", "other"]) fun _ _ _ _ _ _ us hl=>match us,hl with | [_,_],_=>rfl
 have F_00:=qan (st:=qaE) l_00 c_00 k_00
 have b_00:=F_00.binds (ps:=["family", "one", "k"]) fun _ _ _ _ _ _ us hl=>match us,hl with | [_,_,_],_=>rfl
 have F_61:=qan (st:=qc8) l_61 c_61 k_61
 have b_61:=F_61.binds (ps:=["family", "one"]) fun _ _ _ _ _ _ us hl=>match us,hl with | [_,_],_=>rfl
 have F_04:=qan (st:=qaT) l_04 c_04 k_04
 have b_04:=F_04.binds (ps:=["many", "one", "other"]) fun _ _ _ _ _ _ us hl=>match us,hl with | [_,_,_],_=>rfl
 have F_74:=qan (st:=qf1) l_74 c_74 k_74
 have b_74:=F_74.binds (ps:=["many", "one", "other"]) fun _ _ _ _ _ _ us hl=>match us,hl with | [_,_,_],_=>rfl
 have F_48:=qan (st:=qb7) l_48 c_48 k_48
 have b_48:=F_48.binds (ps:=["many", "family"]) fun _ _ _ _ _ _ us hl=>match us,hl with | [_,_],_=>rfl
 have F_55:=qan (st:=qcx) l_55 c_55 k_55
 have b_55:=F_55.binds (ps:=["many", "family"]) fun _ _ _ _ _ _ us hl=>match us,hl with | [_,_],_=>rfl
 have F_07:=qan (st:=qa0) l_07 c_07 k_07
 have b_07:=F_07.binds (ps:=["many", "table", "x", "y"]) fun _ _ _ _ _ _ us hl=>match us,hl with | [_,_,_,_],_=>rfl
 have F_21:=qan (st:=qbi) l_21 c_21 k_21
 have b_21:=F_21.binds (ps:=["many", "table", "x", "y"]) fun _ _ _ _ _ _ us hl=>match us,hl with | [_,_,_,_],_=>rfl
 have F_49:=qan (st:=qcb) l_49 c_49 k_49
 have b_49:=F_49.binds (ps:=["many", "family", "x", "y"]) fun _ _ _ _ _ _ us hl=>match us,hl with | [_,_,_,_],_=>rfl
 have F_39:=qan (st:=qbP) l_39 c_39 k_39
 have b_39:=F_39.binds (ps:=["many", "table", "k"]) fun _ _ _ _ _ _ us hl=>match us,hl with | [_,_,_],_=>rfl
 have F_68:=qan (st:=qd7) l_68 c_68 k_68
 have b_68:=F_68.binds (ps:=["many", "family"]) fun _ _ _ _ _ _ us hl=>match us,hl with | [_,_],_=>rfl
 have F_14:=qan (st:=qa8) l_14 c_14 k_14
 have b_14:=F_14.binds (ps:=["numbers"]) fun _ _ _ _ _ _ us hl=>match us,hl with | [_],_=>rfl
 have F_01:=qan (st:=qaD) l_01 c_01 k_01
 have b_01:=F_01.binds (ps:=["words", "told"]) fun _ _ _ _ _ _ us hl=>match us,hl with | [_,_],_=>rfl
 have F_22:=qan (st:=qbj) l_22 c_22 k_22
 have b_22:=F_22.binds (ps:=["words", "told"]) fun _ _ _ _ _ _ us hl=>match us,hl with | [_,_],_=>rfl
 have F_62:=qan (st:=qdf) l_62 c_62 k_62
 have b_62:=F_62.binds (ps:=["counts"]) fun _ _ _ _ _ _ us hl=>match us,hl with | [_],_=>rfl
 have F_69:=qan (st:=qd0) l_69 c_69 k_69
 have b_69:=F_69.binds (ps:=["many", "family"]) fun _ _ _ _ _ _ us hl=>match us,hl with | [_,_],_=>rfl
 have F_27:=qan (st:=qbD) l_27 c_27 k_27
 have b_27:=F_27.binds (ps:=["words", "names"]) fun _ _ _ _ _ _ us hl=>match us,hl with | [_,_],_=>rfl
 have F_28:=qan (st:=qbC) l_28 c_28 k_28
 have b_28:=F_28.binds (ps:=["words", "told"]) fun _ _ _ _ _ _ us hl=>match us,hl with | [_,_],_=>rfl
 have F_40:=qan (st:=qbQ) l_40 c_40 k_40
 have b_40:=F_40.binds (ps:=["weights", "one"]) fun _ _ _ _ _ _ us hl=>match us,hl with | [_,_],_=>rfl
 have F_63:=qan (st:=qc6) l_63 c_63 k_63
 have b_63:=F_63.binds (ps:=["x", "y", "s", "t"]) fun _ _ _ _ _ _ us hl=>match us,hl with | [_,_,_,_],_=>rfl
 have F_23:=qan (st:=qbn) l_23 c_23 k_23
 have b_23:=F_23.binds (ps:=["weights", "yes", "no"]) fun _ _ _ _ _ _ us hl=>match us,hl with | [_,_,_],_=>rfl
 have F_08:=qan (st:=qa2) l_08 c_08 k_08
 have b_08:=F_08.binds (ps:=["length", "most"]) fun _ _ _ _ _ _ us hl=>match us,hl with | [_,_],_=>rfl
 have F_41:=qan (st:=qbW) l_41 c_41 k_41
 have b_41:=F_41.binds (ps:=["many", "lists", "falling"]) fun _ _ _ _ _ _ us hl=>match us,hl with | [_,_,_],_=>rfl
 have F_56:=qan (st:=qcw) l_56 c_56 k_56
 have b_56:=F_56.binds (ps:=["many", "family", "lists"]) fun _ _ _ _ _ _ us hl=>match us,hl with | [_,_,_],_=>rfl
 have F_15:=qan (st:=qa9) l_15 c_15 k_15
 have b_15:=F_15.binds (ps:=["words", "told"]) fun _ _ _ _ _ _ us hl=>match us,hl with | [_,_],_=>rfl
 have F_29:=qan (st:=qbA) l_29 c_29 k_29
 have b_29:=F_29.binds (ps:=["many", "family"]) fun _ _ _ _ _ _ us hl=>match us,hl with | [_,_],_=>rfl
 have F_03:=qan (st:=qaL) l_03 c_03 k_03
 have b_03:=F_03.binds (ps:=["many", "family", "x", "y"]) fun _ _ _ _ _ _ us hl=>match us,hl with | [_,_,_,_],_=>rfl
 have F_50:=qan (st:=qcc) l_50 c_50 k_50
 have b_50:=F_50.binds (ps:=["word"]) fun _ _ _ _ _ _ us hl=>match us,hl with | [_],_=>rfl
 have F_51:=qan (st:=qb9) l_51 c_51 k_51
 have b_51:=F_51.binds (ps:=["row"]) fun _ _ _ _ _ _ us hl=>match us,hl with | [_],_=>rfl
 have F_09:=qan (st:=qaX) l_09 c_09 k_09
 have b_09:=F_09.binds (ps:=["self", "text"]) fun _ _ _ _ _ _ us hl=>match us,hl with | [_,_],_=>rfl
 have F_05:=qan (st:=qaS) l_05 c_05 k_05
 have b_05:=F_05.binds (ps:=["self", "word"]) fun _ _ _ _ _ _ us hl=>match us,hl with | [_,_],_=>rfl
 have F_02:=qan (st:=qaC) l_02 c_02 k_02
 have b_02:=F_02.binds (ps:=["self", "name"]) fun _ _ _ _ _ _ us hl=>match us,hl with | [_,_],_=>rfl
 have F_10:=qan (st:=qa3) l_10 c_10 k_10
 have b_10:=F_10.binds (ps:=["self", "kind", "word"]) fun _ _ _ _ _ _ us hl=>match us,hl with | [_,_,_],_=>rfl
 have F_75:=qan (st:=qgb) l_75 c_75 k_75
 have b_75:=F_75.binds (ps:=["many", "deed", "things"]) fun _ _ _ _ _ _ us hl=>match us,hl with | [_,_,_],_=>rfl
 have F_52:=qan (st:=qb4) l_52 c_52 k_52
 have b_52:=F_52.binds (ps:=["words", "deed", "things"]) fun _ _ _ _ _ _ us hl=>match us,hl with | [_,_,_],_=>rfl
 have F_53:=qan (st:=qb5) l_53 c_53 k_53
 have b_53:=F_53.binds (ps:=["self", "row"]) fun _ _ _ _ _ _ us hl=>match us,hl with | [_,_],_=>rfl
 have F_42:=qan (st:=qbM) l_42 c_42 k_42
 have b_42:=F_42.binds (ps:=["_law_error"]) fun _ _ _ _ _ _ us hl=>match us,hl with | [_],_=>rfl
 have F_16:=qan (st:=qbb) l_16 c_16 k_16
 have b_16:=F_16.binds (ps:=["_law_desk", "_law_row"]) fun _ _ _ _ _ _ us hl=>match us,hl with | [_,_],_=>rfl
 have F_30:=qan (st:=qbx) l_30 c_30 k_30
 have b_30:=F_30.binds (ps:=[]) fun _ _ _ _ _ _ us hl=>match us,hl with | [],_=>rfl
 have F_11:=qan (st:=qaW) l_11 c_11 k_11
 have b_11:=F_11.binds (ps:=[]) fun _ _ _ _ _ _ us hl=>match us,hl with | [],_=>rfl
 have F_31:=qan (st:=qbB) l_31 c_31 k_31
 have b_31:=F_31.binds (ps:=[]) fun _ _ _ _ _ _ us hl=>match us,hl with | [],_=>rfl
 have F_32:=qan (st:=qbu) l_32 c_32 k_32
 have b_32:=F_32.binds (ps:=["_law_words_here", "_law_cell_here"]) fun _ _ _ _ _ _ us hl=>match us,hl with | [_,_],_=>rfl
 have F_17:=qan (st:=qbc) l_17 c_17 k_17
 have b_17:=F_17.binds (ps:=["_law_text_here"]) fun _ _ _ _ _ _ us hl=>match us,hl with | [_],_=>rfl
 have F_12:=qan (st:=qaZ) l_12 c_12 k_12
 have b_12:=F_12.binds (ps:=["_law_words_here"]) fun _ _ _ _ _ _ us hl=>match us,hl with | [_],_=>rfl
 have F_law:=qan (st:=qgT) l_law c_law k_law
 refine ⟨W.fnOf "law" "law" (qak qgT) (qaj qgT) (qab qgT) .none kV_law dc_law pm_law an_law cd_law ct_law,fun s v => .of_eq rfl,rfl,fun base _ _=>?_⟩
 have C_43:Cal l.prog w K mg base "is_whole" 1 ["thing"] qio _ _:=⟨qij F_43 T ,W.mg_of X G a_43,k_43,b_43⟩
 have C_33:Cal l.prog w K mg base "_law_cell" 1 ["_law_script", "_law_k"] (qjv K) _ _:=⟨qhQ F_33 T ,W.mg_of X G a_33,k_33,b_33⟩
 have C_44:Cal l.prog w K mg base "_law_mix" 1 ["_law_cell_here", "_law_k"] qjS _ _:=⟨qid F_44 T ,W.mg_of X G a_44,k_44,b_44⟩
 have C_34:Cal l.prog w K mg base "_law_size" 1 ["_law_one"] qlu _ _:=⟨qhR F_34 T ,W.mg_of X G a_34,k_34,b_34⟩
 have C_18:Cal l.prog w K mg base "_law_family" 2 ["_law_script", "_law_start", "_law_many", "_law_most"] (qgp K) _ _:=⟨qfT F_18 T C_33 C_44 C_34,W.mg_of X G a_18,k_18,b_18⟩
 have C_24:Cal l.prog w K mg base "_law_words" 2 ["_law_cell_here", "_law_count"] (qfD K) _ _:=⟨qgK F_24 T C_44,W.mg_of X G a_24,k_24,b_24⟩
 have C_06:Cal l.prog w K mg base "_law_set_text" 1 ["_law_words_here", "_law_one"] (qiG K) _ _:=⟨qev F_06 T ,W.mg_of X G a_06,k_06,b_06⟩
 have C_35:Cal l.prog w K mg base "_law_text" 2 ["_law_words_here", "_law_family_here"] (qie K) _ _:=⟨qhM F_35 T C_06,W.mg_of X G a_35,k_35,b_35⟩
 have C_57:Cal l.prog w K mg base "is_set" 2 ["many", "thing"] qo0 _ _:=⟨qkI F_57 T C_43,W.mg_of X G a_57,k_57,b_57⟩
 have C_36:Cal l.prog w K mg base "is_family" 3 ["many", "thing"] (qiN K) _ _:=⟨qhe F_36 T C_57,W.mg_of X G a_36,k_36,b_36⟩
 have C_45:Cal l.prog w K mg base "names_in" 1 ["one"] qfz _ _:=⟨qiS F_45 T ,W.mg_of X G a_45,k_45,b_45⟩
 have C_58:Cal l.prog w K mg base "set_of" 1 ["names"] (qiY K) _ _:=⟨qkx F_58 T ,W.mg_of X G a_58,k_58,b_58⟩
 have C_59:qeu l.prog w K mg base "parted" 1 ["text", "sign"] (qdH cX) _ _:=⟨qkX F_59 T Z ,W.mg_of X G a_59,k_59,b_59⟩
 have C_54:Cal l.prog w K mg base "is_word" 1 ["text"] qeM _ _:=⟨qj3 F_54 T ,W.mg_of X G a_54,k_54,b_54⟩
 have C_25:qeu l.prog w K mg base "read_names" 2 ["text"] (qdt K cX) _ _:=⟨qgC F_25 T Z C_59 C_54,W.mg_of X G a_25,k_25,b_25⟩
 have C_37:qeu l.prog w K mg base "read_name" 1 ["words", "word"] (qc7 K cX) _ _:=⟨qhE F_37 T Z ,W.mg_of X G a_37,k_37,b_37⟩
 have C_46:Cal l.prog w K mg base "show_set" 2 ["words", "one"] (qe6 K) _ _:=⟨qif F_46 T C_45,W.mg_of X G a_46,k_46,b_46⟩
 have C_19:Cal l.prog w K mg base "show_family" 3 ["words", "family"] (qfA K) _ _:=⟨qfU F_19 T C_46,W.mg_of X G a_19,k_19,b_19⟩
 have C_47:qeu l.prog w K mg base "read_set" 2 ["words", "text"] (qdw K cX) _ _:=⟨qih F_47 T Z C_59 C_58 C_37,W.mg_of X G a_47,k_47,b_47⟩
 have C_20:qeu l.prog w K mg base "read_family" 4 ["words", "text"] (qfe K cX) _ _:=⟨qfQ F_20 T Z C_59 C_47 C_36,W.mg_of X G a_20,k_20,b_20⟩
 have C_64:Cal l.prog w K mg base "holds" 1 ["one", "other"] qaP _ _:=⟨qmO F_64 T ,W.mg_of X G a_64,k_64,b_64⟩
 have C_65:Cal l.prog w K mg base "meets" 1 ["one", "other"] qaP _ _:=⟨qn9 F_65 T ,W.mg_of X G a_65,k_65,b_65⟩
 have C_70:Cal l.prog w K mg base "rest" 1 ["many", "one"] qaP _ _:=⟨qqk F_70 T ,W.mg_of X G a_70,k_70,b_70⟩
 have C_71:Cal l.prog w K mg base "says" 1 ["family", "one"] qaP _ _:=⟨qpN F_71 T ,W.mg_of X G a_71,k_71,b_71⟩
 have C_66:Cal l.prog w K mg base "least" 1 ["some"] qaP _ _:=⟨qnx F_66 T ,W.mg_of X G a_66,k_66,b_66⟩
 have C_67:Cal l.prog w K mg base "rests" 1 ["many", "family"] qaP _ _:=⟨qnQ F_67 T ,W.mg_of X G a_67,k_67,b_67⟩
 have C_13:Cal l.prog w K mg base "first_missed" 1 ["family", "one"] qaP _ _:=⟨qfj F_13 T ,W.mg_of X G a_13,k_13,b_13⟩
 have C_72:Cal l.prog w K mg base "hits" 1 ["many", "family"] qaP _ _:=⟨qp8 F_72 T ,W.mg_of X G a_72,k_72,b_72⟩
 have C_38:Cal l.prog w K mg base "always_in" 1 ["family", "k"] qaP _ _:=⟨qhS F_38 T ,W.mg_of X G a_38,k_38,b_38⟩
 have C_26:Cal l.prog w K mg base "always_out" 1 ["family", "k"] qaP _ _:=⟨qgV F_26 T ,W.mg_of X G a_26,k_26,b_26⟩
 have C_60:Cal l.prog w K mg base "either" 1 ["one", "other"] qaP _ _:=⟨qkO F_60 T ,W.mg_of X G a_60,k_60,b_60⟩
 have C_73:Cal l.prog w K mg base "both" 1 ["one", "other"] qaP _ _:=⟨qoS F_73 T ,W.mg_of X G a_73,k_73,b_73⟩
 have C_00:Cal l.prog w K mg base "first_met_by_alone" 1 ["family", "one", "k"] qaP _ _:=⟨qcV F_00 T ,W.mg_of X G a_00,k_00,b_00⟩
 have C_61:Cal l.prog w K mg base "looked" 1 ["family", "one"] qaP _ _:=⟨qkk F_61 T ,W.mg_of X G a_61,k_61,b_61⟩
 have C_04:Cal l.prog w K mg base "first_left_out" 1 ["many", "one", "other"] qaP _ _:=⟨qee F_04 T ,W.mg_of X G a_04,k_04,b_04⟩
 have C_74:Cal l.prog w K mg base "held" 1 ["many", "one", "other"] qaP _ _:=⟨qqf F_74 T ,W.mg_of X G a_74,k_74,b_74⟩
 have C_48:Cal l.prog w K mg base "table_of" 1 ["many", "family"] qaP _ _:=⟨qib F_48 T ,W.mg_of X G a_48,k_48,b_48⟩
 have C_55:Cal l.prog w K mg base "noes_by" 1 ["many", "family"] qaP _ _:=⟨qjK F_55 T ,W.mg_of X G a_55,k_55,b_55⟩
 have C_07:Cal l.prog w K mg base "first_parting" 1 ["many", "table", "x", "y"] qaP _ _:=⟨qeA F_07 T ,W.mg_of X G a_07,k_07,b_07⟩
 have C_21:Cal l.prog w K mg base "compared_in" 1 ["many", "table", "x", "y"] qaP _ _:=⟨qfR F_21 T ,W.mg_of X G a_21,k_21,b_21⟩
 have C_49:Cal l.prog w K mg base "compared" 1 ["many", "family", "x", "y"] qaP _ _:=⟨qit F_49 T ,W.mg_of X G a_49,k_49,b_49⟩
 have C_39:Cal l.prog w K mg base "turned_by" 1 ["many", "table", "k"] qaP _ _:=⟨qhu F_39 T ,W.mg_of X G a_39,k_39,b_39⟩
 have C_68:Cal l.prog w K mg base "turns" 1 ["many", "family"] qaP _ _:=⟨qns F_68 T ,W.mg_of X G a_68,k_68,b_68⟩
 have C_14:Cal l.prog w K mg base "show_numbers" 1 ["numbers"] qaP _ _:=⟨qfB F_14 T ,W.mg_of X G a_14,k_14,b_14⟩
 have C_01:Cal l.prog w K mg base "show_word_and_sets" 1 ["words", "told"] qaP _ _:=⟨qcT F_01 T ,W.mg_of X G a_01,k_01,b_01⟩
 have C_22:Cal l.prog w K mg base "show_looked" 1 ["words", "told"] qaP _ _:=⟨qfL F_22 T ,W.mg_of X G a_22,k_22,b_22⟩
 have C_62:Cal l.prog w K mg base "ranked" 1 ["counts"] qaP _ _:=⟨qlk F_62 T ,W.mg_of X G a_62,k_62,b_62⟩
 have C_69:Cal l.prog w K mg base "ranks" 1 ["many", "family"] qaP _ _:=⟨qmP F_69 T ,W.mg_of X G a_69,k_69,b_69⟩
 have C_27:Cal l.prog w K mg base "show_alike" 1 ["words", "names"] qaP _ _:=⟨qgW F_27 T ,W.mg_of X G a_27,k_27,b_27⟩
 have C_28:Cal l.prog w K mg base "show_ranks" 1 ["words", "told"] qaP _ _:=⟨qgn F_28 T ,W.mg_of X G a_28,k_28,b_28⟩
 have C_40:Cal l.prog w K mg base "weight_of" 1 ["weights", "one"] qaP _ _:=⟨qho F_40 T ,W.mg_of X G a_40,k_40,b_40⟩
 have C_63:Cal l.prog w K mg base "traded" 1 ["x", "y", "s", "t"] qaP _ _:=⟨ql7 F_63 T ,W.mg_of X G a_63,k_63,b_63⟩
 have C_23:Cal l.prog w K mg base "bar_between" 1 ["weights", "yes", "no"] qaP _ _:=⟨qfP F_23 T ,W.mg_of X G a_23,k_23,b_23⟩
 have C_08:Cal l.prog w K mg base "falling_lists" 1 ["length", "most"] qaP _ _:=⟨qew F_08 T ,W.mg_of X G a_08,k_08,b_08⟩
 have C_41:Cal l.prog w K mg base "given_out" 1 ["many", "lists", "falling"] qaP _ _:=⟨qht F_41 T ,W.mg_of X G a_41,k_41,b_41⟩
 have C_56:Cal l.prog w K mg base "weighed" 1 ["many", "family", "lists"] qaP _ _:=⟨qjU F_56 T ,W.mg_of X G a_56,k_56,b_56⟩
 have C_15:Cal l.prog w K mg base "show_weights" 1 ["words", "told"] qaP _ _:=⟨qeZ F_15 T ,W.mg_of X G a_15,k_15,b_15⟩
 have C_29:qeu l.prog w K mg base "by_weights" 2 ["many", "family"] (qs9 cM) _ _:=⟨qgA F_29 T Z C_69 C_56 C_63,W.mg_of X G a_29,k_29,b_29⟩
 have C_03:qeu l.prog w K mg base "compared_unlike" 2 ["many", "family", "x", "y"] (qqh cX) _ _:=⟨qdC F_03 T Z C_49,W.mg_of X G a_03,k_03,b_03⟩
 have C_50:qeu l.prog w K mg base "new_name" 2 ["word"] (qfu cX) _ _:=⟨qic F_50 T Z C_54,W.mg_of X G a_50,k_50,b_50⟩
 have C_51:qeu l.prog w K mg base "parts_of" 1 ["row"] (qe5 K cO) _ _:=⟨qis F_51 T Z ,W.mg_of X G a_51,k_51,b_51⟩
 have C_09:qsG l.prog w K mg base cD 3 ["self", "text"] (qi3 cD cX) _ _:=⟨qez F_09 T Z C_25,⟨mkD,a_09,i_09,kpD⟩,b_09⟩
 have C_05:qmE l.prog w K mg base cD "family_by" 1 ["self", "word"] (qin cD cN) _ _:=⟨qd9 F_05 T Z ,⟨a_05,i_05,k_05⟩,b_05⟩
 have C_02:qmE l.prog w K mg base cD "look_for_room" 1 ["self", "name"] (qkW cD cF) _ _:=⟨qcR F_02 T Z ,⟨a_02,i_02,k_02⟩,b_02⟩
 have C_10:qmE l.prog w K mg base cD "thing_of" 5 ["self", "kind", "word"] (qig cD cX cN cO) _ _:=⟨qex F_10 T Z C_20 C_50 C_05 C_37 C_47,⟨a_10,i_10,k_10⟩,b_10⟩
 have C_75:Cal l.prog w K mg base "made" 2 ["many", "deed", "things"] (qkF K) _ _:=⟨qpB F_75 T C_26 C_72 C_67 C_60 C_73 C_38,W.mg_of X G a_75,k_75,b_75⟩
 have C_52:qeu l.prog w K mg base "answered" 4 ["words", "deed", "things"] (qd4 K cX cM) _ _:=⟨qiW F_52 T Z C_15 C_19 C_22 C_01 C_14 C_28 C_29 C_71 C_61 C_74 C_03 C_68 C_69,W.mg_of X G a_52,k_52,b_52⟩
 have C_53:qmE l.prog w K mg base cD "say" 6 ["self", "row"] (qnZ cD cX cN cO cM) _ _:=⟨qir F_53 T Z C_51 C_52 C_10 C_02 C_75,⟨a_53,i_53,k_53⟩,b_53⟩
 have C_42:Cal l.prog w K mg base "_law_kind" 1 ["_law_error"] (qgM cX cN cO cM) _ _:=⟨qhZ F_42 T Z ,W.mg_of X G a_42,k_42,b_42⟩
 have C_16:Cal l.prog w K mg base "_law_refusal" 7 ["_law_desk", "_law_row"] (qlv cD) _ _:=⟨qff F_16 T Z C_42 C_53,W.mg_of X G a_16,k_16,b_16⟩
 have C_30:Cal l.prog w K mg base "_law_deeds" 1 [] qiM _ _:=⟨qgs F_30 T ,W.mg_of X G a_30,k_30,b_30⟩
 have C_11:Cal l.prog w K mg base "_law_families" 1 [] ql4 _ _:=⟨qeB F_11 T ,W.mg_of X G a_11,k_11,b_11⟩
 have C_31:Cal l.prog w K mg base "_law_texts" 1 [] qiI _ _:=⟨qgX F_31 T ,W.mg_of X G a_31,k_31,b_31⟩
 have C_32:Cal l.prog w K mg base "_law_wrong" 2 ["_law_words_here", "_law_cell_here"] (qiK K) _ _:=⟨qgS F_32 T Z C_44 C_30 C_11 C_31,W.mg_of X G a_32,k_32,b_32⟩
 have C_17:Cal l.prog w K mg base "_law_no_desk" 5 ["_law_text_here"] qgI _ _:=⟨qfE F_17 T Z C_09 C_42,W.mg_of X G a_17,k_17,b_17⟩
 have C_12:Cal l.prog w K mg base "_law_no_names" 1 ["_law_words_here"] (qfc K) _ _:=⟨qeE F_12 T ,W.mg_of X G a_12,k_12,b_12⟩
 exact qrY F_law T Z C_24 C_09 C_18 C_53 C_12 C_33 C_32 C_16 C_44 C_35 C_17
theorem walk {l:W.OpenLaw} {q:Program} {loose:List Str} {XP:(Str->Option Value)->Heap->Prop} {YP:World->Heap->Prop} {d:DefRec} {K:Params->W.Frag} (hn:l.most=some 63) (hdf:d.params.defaults=[])
   (hY:∀(w:World) (h:Heap),YP w h->(K w.params).In h)
   (F:∀(w:World) (mg:Str->Option Value) (fa:Addr) (h:Heap),(K w.params).In h->h.Ns mainGlobals mg->mg d.name=some (.ref fa) ->
     ∃fd:FuncData,(∀(s:Shared) (u:Value),BindsTo s fd ⟨[u],[]⟩ [("_law_script",u)])/\fd.scope.names.lookup ("_law_script" : Str)=some .local/\∀base:Heap,(K w.params).In base->base.Ns mainGlobals mg->qaM l.prog w (K w.params) mg base CX0 8 fa fd ["_law_script"] ((qme (K w.params)))) :
   W.WalkO q loose XP YP l.row.toRowW d [] (fun f vs=>PySem.call f vs) :=
 L2.walk_of (n:=63) (k:=8) (x := "_law_script") (CX:=fun _=>CX0) (sp:=fun w=>(qme (K w.params))) hn (by decide) hdf ⟨rfl,by decide,by decide⟩ hY F (fun _ _ a ns hl _ hS=>⟨_,rfl,a,ns,rfl,hS,hl,fun _=>rfl⟩) fun _ _ _ _ _ z=>z
end Zk50
namespace PySem.W.Fast
def tw9473469649980739390:=Nat
def tw4766573283157005127:=Nat
def tw2018225685919821666:=Nat
def tw7744315407743627218:=Nat
def tw5002717738974758582:=Nat
def tw15372094325075272006:=Nat
def tw11150619582089111102:=Nat
def tw5449331660649443480:=Nat
def tw18340648121812775106:=Nat
def tw14250379746091586259:=Nat
def tw11691652035955182158:=Nat
def tw17760400351382198042:=Nat
def tw11971465808677985244:=Nat
def tw10404676891381528104:=Nat
def tw5819996314625094421:=Nat
def tw6392333345327729194:=Nat
def tw13575074788031889092:=Nat
def tw862505151496557984:=Nat
def tw7377480144605053446:=Nat
def tw13873923116571744050:=Nat
def tw2618855772040385858:=Nat
def tw14421889079322160951:=Nat
def tw9444255487056323348:=Nat
def tw16190635077502103832:=Nat
def tw12223539997854946264:=Nat
def tw13792553790228639867:=Nat
def tw8793268125061405362:=Nat
def tw18284649123407217693:=Nat
def tw14820499056835515482:=Nat
def tw948317432311917522:=Nat
def tw2277809441083616070:=Nat
def tw16055263326811188141:=Nat
def tw904545162705544649:=Nat
def tw1532043398550682777:=Nat
def tw9292301772852574921:=Nat
def tw4268805256244335399:=Nat
def tw17832666244127835728:=Nat
def tw3712217677149849369:=Nat
def tw17528602869612581155:=Nat
def tw918587705804415213:=Nat
def tw2482704294912462771:=Nat
def tw4175263890022130853:=Nat
def tw8294956826506659894:=Nat
def tw9555332962961248367:=Nat
def tw12969668842110448257:=Nat
def tw113034129879296457:=Nat
def tw13854816253357224910:=Nat
def tw2581514822691164445:=Nat
def tw9879396733267502103:=Nat
def tw14117291086576903113:=Nat
def tw4007492339820368184:=Nat
def tw835849301558201348:=Nat
def tw17485187042686246622:=Nat
def tw9767580810415184510:=Nat
def tw1606148556004224376:=Nat
def tw519307103212496624:=Nat
def tw15680691119627574988:=Nat
def tw2902544023026722286:=Nat
def tw11249784962427181824:=Nat
def tw3103314814033207405:=Nat
def tw3804351014083974949:=Nat
def tw16479913835742946840:=Nat
def tw8103816585336703262:=Nat
def tw16557717025719452258:=Nat
def tw5736075633882605218:=Nat
def tw6164434627939883100:=Nat
def tw713159204687479271:=Nat
def tw10521963424746000240:=Nat
def tw8816422463400215594:=Nat
def tw7932912144301953074:=Nat
def tw12229059357466655244:=Nat
def tw17410610713771347617:=Nat
def tw6916798791951503873:=Nat
def tw9802528870972104026:=Nat
def tw13713771119077225695:=Nat
def tw5691422430260270608:=Nat
def tw886174427066128661:=Nat
def tw6296093979557071558:=Nat
def tw7316221684114302483:=Nat
def tw12606469029510623084:=Nat
def tw6777225970507911126:=Nat
def tw15620111128114188230:=Nat
def tw1174176396901749689:=Nat
def tw3948866903004776665:=Nat
def tw10880131072756447708:=Nat
def tw69829448371563287:=Nat
def tw17529272862002965533:=Nat
def tw587745057067220410:=Nat
def tw3058108285073923205:=Nat
def tw14350353780343186961:=Nat
def tw14398913511191339943:=Nat
def tw59392751350115394:=Nat
def tw4018630369455756620:=Nat
def tw3693866731625007476:=Nat
def tw8508268829444874763:=Nat
def tw18207528742331720313:=Nat
def tw10957888119881425116:=Nat
def tw11747004432388967543:=Nat
def tw13626799313137245617:=Nat
def tw6929397360187754293:=Nat
def tw4102817118909358157:=Nat
def tw12230202482956045533:=Nat
def tw16413321981994419754:=Nat
def tw5865485967895045466:=Nat
def tw18165910945114998558:=Nat
def tw5196497860908303357:=Nat
def tw14867999706762358726:=Nat
def tw4267522800800809520:=Nat
def tw5802724482500105968:=Nat
def tw3437457808915208703:=Nat
def tw10391769761165674849:=Nat
def tw11682737854944422254:=Nat
def tw12457229671878531375:=Nat
def tw10406973414855130310:=Nat
def tw5497988503624795238:=Nat
def tw12677421594812913252:=Nat
def tw12361351963329897255:=Nat
def tw4775883773536512995:=Nat
def tw11890941775833684792:=Nat
def tw15273169580526285338:=Nat
def tw15571249003256588426:=Nat
def tw11317689972366095213:=Nat
def tw781061202456345092:=Nat
def tw17145891836261557712:=Nat
def tw14355548926589696793:=Nat
def tw16505143183378838673:=Nat
def tw10495760748848977618:=Nat
def tw15405111416212515643:=Nat
def tw12798797435441295962:=Nat
def tw7650819815196111682:=Nat
def tw14307608981493538540:=Nat
def tw2707690202839363923:=Nat
def tw5416909544594358403:=Nat
def tw2522357105633529436:=Nat
def tw6574601383280601832:=Nat
def tw4235778527225468883:=Nat
def tw13490896356185133570:=Nat
def tw8112505260137971264:=Nat
def tw15585327761315559826:=Nat
def tw12013153197586757867:=Nat
def tw4291137988109711468:=Nat
def tw16176187525637088597:=Nat
def tw17641273983664765664:=Nat
def tw9007755110914894560:=Nat
def tw14853567537517858734:=Nat
def tw5565853030269108318:=Nat
def tw12830361544914562536:=Nat
def tw11766550438898804159:=Nat
def tw3350164374649577542:=Nat
def tw2660449180979808129:=Nat
def tw16177598856934220169:=Nat
def tw4878970029639013338:=Nat
def tw8221547021435098731:=Nat
def tw11745655520754462983:=Nat
def tw13449037871358604106:=Nat
def tw5149664254603363495:=Nat
def tw12500942786972974869:=Nat
def tw9662427939016146603:=Nat
def tw16413916592749351943:=Nat
def tw198143751899844081:=Nat
def tw11903937964152399717:=Nat
def tw13828693552044261977:=Nat
def tw8771316662569939981:=Nat
def tw14784995702193209769:=Nat
def tw10280852589386612269:=Nat
def tw15726899963926121531:=Nat
def tw381811369217281300:=Nat
def tw15199134791564092579:=Nat
def tw6474063179363044747:=Nat
def tw11593550515435565916:=Nat
def tw5601163829145324100:=Nat
def tw2448879440224072707:=Nat
def tw5458630893568542839:=Nat
def tw7814134968294297044:=Nat
def tw11858539064869965894:=Nat
def tw10339319681131230000:=Nat
def tw6413914648811711584:=Nat
def tw1439123297847770758:=Nat
def tw11165527496316991623:=Nat
def tw14271412391693813116:=Nat
def tw14041963138252801071:=Nat
def tw2437959244768816582:=Nat
def tw4275225560156113566:=Nat
def tw4775687694523681714:=Nat
def tw5098266007977409480:=Nat
def tw11871450488770665080:=Nat
def tw5309545893956568720:=Nat
def tw14041207632420986377:=Nat
def tw1023756611599611891:=Nat
def tw11516635387403741170:=Nat
def tw17059592427869645778:=Nat
def tw6440548409062875555:=Nat
def tw3990612088267066752:=Nat
def tw9894406334439559525:=Nat
def tw12683733853811766108:=Nat
def tw6222412959555199292:=Nat
def tw9232512240961222986:=Nat
def tw16965099709012996683:=Nat
def tw10078902230339167961:=Nat
def tw3261605781576251615:=Nat
def tw2135088243489590043:=Nat
def tw1429980234364379575:=Nat
def tw16176413578982609842:=Nat
def tw5882957513142465457:=Nat
def tw5968201741109731175:=Nat
def tw8685206963533357205:=Nat
def tw7330782762403375596:=Nat
def tw14076731666228168243:=Nat
def tw8526218603884150519:=Nat
def tw8302878354638471539:=Nat
def tw13716007121033611180:=Nat
def tw5335787269975321836:=Nat
def tw857001731792823871:=Nat
def tw6635770767255477329:=Nat
def tw3765881303510145502:=Nat
def tw12804264416103681298:=Nat
def tw13717624809343427182:=Nat
def tw15749528719752108118:=Nat
def tw15777326874598134530:=Nat
def tw2900095780759420979:=Nat
def tw3431981177846497303:=Nat
def tw13027777443000194716:=Nat
def tw12768537998388716754:=Nat
def tw12248463728389448696:=Nat
def tw8297108983216259940:=Nat
def tw12212338973722736560:=Nat
def tw10363237911377288520:=Nat
def tw5782210027759654508:=Nat
def tw549442990788646572:=Nat
def tw16465799353512048819:=Nat
def tw3627284662751494694:=Nat
def tw6973527325811176096:=Nat
def tw14489924103923629435:=Nat
def tw17417032252715626152:=Nat
def tw9433749589525696774:=Nat
def tw3668123197327478489:=Nat
def tw6171159597112266471:=Nat
def tw15002730515521408721:=Nat
def tw761922433544724347:=Nat
def tw16144923766164130029:=Nat
def tw12143805243588630137:=Nat
def tw15268797470517214828:=Nat
def tw10938982485821317491:=Nat
def tw8776113118353231426:=Nat
def tw16578252726856379501:=Nat
def tw4232071925533880728:=Nat
def tw10156538118960544818:=Nat
def tw2999755830426917308:=Nat
def tw16468582669919839653:=Nat
def tw944120438176866795:=Nat
def tw5479386130628459121:=Nat
def tw6288398551056149084:=Nat
def tw11493200168715266300:=Nat
def tw5628461270076575187:=Nat
def tw17517255252335216976:=Nat
def tw9848528024312614561:=Nat
def tw4458094349548101982:=Nat
def tw16649721724534470259:=Nat
def tw5332453605088530016:=Nat
def tw16522011935298456322:=Nat
def tw3573239243109593235:=Nat
def tw15690192879661971883:=Nat
def tw2744459100162711902:=Nat
def tw14575316577447994444:=Nat
def tw5158214746494637973:=Nat
def tw16422311851851478504:=Nat
def tw10393100464318255975:=Nat
def tw1826356196300710905:=Nat
def tw8639056865172781249:=Nat
def tw8556402368673198919:=Nat
def tw18423623919077585029:=Nat
def tw6882760668821072215:=Nat
def tw14604539392720125880:=Nat
def tw3056183157594541915:=Nat
def tw6878994112816511957:=Nat
def tw8342353551920198362:=Nat
def tw2178353359475304449:=Nat
def tw14400769873405590953:=Nat
def tw9938806614011155700:=Nat
def tw11974355977032723156:=Nat
def tw3522579984718567890:=Nat
def tw5188134523194894907:=Nat
def tw16906563758682930226:=Nat
def tw2119304179184578215:=Nat
def tw206594973557875727:=Nat
def tw14027829983118140849:=Nat
def tw9967977604450345193:=Nat
def tw11096610135005546289:=Nat
def tw9942512088215400903:=Nat
def tw9286565467154411290:=Nat
def tw22720067946908437:=Nat
def tw8577393713547110149:=Nat
def tw11794324402379455525:=Nat
def tw17329741082057403451:=Nat
def tw10415983404649488310:=Nat
def tw2903315809590072016:=Nat
def tw17603467678794443618:=Nat
def tw2239672217092827164:=Nat
def tw10798498058769890234:=Nat
def tw2503031846355360349:=Nat
def tw17286461366824718833:=Nat
def tw4264302061237395366:=Nat
def tw2128766049295470182:=Nat
def tw17809360207037832840:=Nat
def tw9168559413148241253:=Nat
def tw2294925037625470245:=Nat
def tw17513499557324335278:=Nat
def tw16165723905169625937:=Nat
def tw4166031604647383854:=Nat
def tw4051038426363397411:=Nat
def tw1256564063281223705:=Nat
def tw16810800071645517142:=Nat
def tw7159598308526494674:=Nat
def tw6629162964290614677:=Nat
def tw11702999175661545232:=Nat
def tw6853964163734996179:=Nat
def tw11708886869993437968:=Nat
def tw16457090420895396154:=Nat
def tw8997376752275536326:=Nat
def tw17726522811402835584:=Nat
def tw15458323263677075508:=Nat
def tw17230299661591656809:=Nat
def tw3739100241926657165:=Nat
def tw88818419554070051:=Nat
def tw7655209537016773881:=Nat
def tw8576440185184171883:=Nat
def tw9219763070007834051:=Nat
def tw6539037168937369495:=Nat
def tw1175696029122833793:=Nat
def tw6378165195352873142:=Nat
def tw15102691254201248458:=Nat
def tw9790186056093438432:=Nat
def tw5069342100685625049:=Nat
def tw18237826632112325546:=Nat
def tw10012125942245295194:=Nat
def tw15875902125713706537:=Nat
def tw17943730260027766652:=Nat
def tw13381870361603574452:=Nat
def tw14592382669528147805:=Nat
def tw15305834304345419631:=Nat
def tw10366484335577606426:=Nat
def tw13424154206381771222:=Nat
def tw7770982318564235391:=Nat
def tw8307210759173176495:=Nat
def tw8201651526344392759:=Nat
def tw5567584165864088948:=Nat
def tw16554692107859799841:=Nat
def tw10492410130590499054:=Nat
def tw14623692019839967999:=Nat
def tw1624320792328842749:=Nat
def tw15311277930325278254:=Nat
def tw11826075437849705538:=Nat
def tw16619961697151706385:=Nat
def tw3345166750664970615:=Nat
def tw11350391414922871236:=Nat
def tw8623467259737218071:=Nat
def tw8845998326428244424:=Nat
def tw5665127480896537711:=Nat
def tw14128113109734701055:=Nat
def tw2105139731326254147:=Nat
def tw40277660472799450:=Nat
def tw12845749577610124085:=Nat
def tw12523142058208128900:=Nat
def tw14522189420938494874:=Nat
def tw3338044444018114761:=Nat
def tw6622196456684912498:=Nat
def tw3668354671844015199:=Nat
def tw17426594313627245953:=Nat
def tw295795631791275109:=Nat
def tw15645032538733326727:=Nat
def tw796182410508550715:=Nat
def tw9065717442052690450:=Nat
def tw7016231516562061414:=Nat
def tw11533215933438625948:=Nat
def tw9985999086376277379:=Nat
def tw8643635172393363222:=Nat
def tw2529781408290747892:=Nat
def tw17019753249130187104:=Nat
def tw5090405066797853502:=Nat
def tw3300668630804149575:=Nat
def tw151035571511228093:=Nat
def tw9055615998562329015:=Nat
def tw7050788750495753018:=Nat
def tw15825837373372409575:=Nat
def tw11788783284365381271:=Nat
def tw10383037028768626959:=Nat
def tw16834932005322379874:=Nat
def tw9214816366340986388:=Nat
def tw2774368338705199919:=Nat
def tw15722380266800611032:=Nat
def tw8687877318921841264:=Nat
def tw13803177719363449385:=Nat
def tw15190556735597050779:=Nat
def tw661568815865208905:=Nat
def tw4120976511069337854:=Nat
def tw13070429196989640891:=Nat
def tw16909895347101068674:=Nat
def tw73777157972075669:=Nat
def tw8654531764727082337:=Nat
def tw8566146854635160519:=Nat
def tw17032284701333895341:=Nat
def tw2777419514888132651:=Nat
def tw1483056897629114299:=Nat
def tw16206506661082421157:=Nat
def tw15289662658641038332:=Nat
def tw17524017611624478610:=Nat
def tw15572230284634782207:=Nat
def tw11421347478208477300:=Nat
def tw17946831443056306378:=Nat
def tw4916841329186389308:=Nat
def tw8943273658713708314:=Nat
def tw812326061545795899:=Nat
def tw11386160919853188131:=Nat
def tw10785302842557490193:=Nat
def tw1700021310917860245:=Nat
def tw4588052323316653361:=Nat
def tw4009575241350790692:=Nat
def tw16655965893821651450:=Nat
def tw11851500255658350689:=Nat
def tw10012948527134974837:=Nat
def tw1679224037208576914:=Nat
def tw3706364279612181375:=Nat
def tw13365175681233757997:=Nat
def tw461745663609792690:=Nat
def tw8789310679964661342:=Nat
def tw9374057772158331941:=Nat
def tw2143253908303812131:=Nat
def tw12307930812445416293:=Nat
def tw13344818366286173170:=Nat
def tw11576824016341680405:=Nat
def tw8447238823353877508:=Nat
def tw16853124751696470219:=Nat
def tw15294147377606377325:=Nat
def tw15337780868763521446:=Nat
def tw6307574679917582258:=Nat
def tw2640304580482381121:=Nat
def tw9937489505944866704:=Nat
def tw11614195751705657334:=Nat
def tw16335899376041261676:=Nat
def tw10384338750385710265:=Nat
def tw5971010348070580617:=Nat
def tw6398071814992169834:=Nat
def tw9762927711498733595:=Nat
def tw10948071951872918073:=Nat
def tw7438752825330626637:=Nat
def tw6606529173219869484:=Nat
def tw12548504853868340583:=Nat
def tw14047235540057127819:=Nat
def tw6002450313408724488:=Nat
def tw6164509554563158691:=Nat
def tw17356301191853353519:=Nat
def tw1634740180628510655:=Nat
def tw914351000018748305:=Nat
def tw17566495830140401629:=Nat
def tw4781192660422735207:=Nat
def tw10648618844288008781:=Nat
def tw15504972366248758256:=Nat
def tw9796463792079148060:=Nat
def tw13792562650384472119:=Nat
def tw6568498588428185761:=Nat
def tw10943937003006261778:=Nat
def tw7901164666744740661:=Nat
def tw12906724130465936006:=Nat
def tw9170703787628364651:=Nat
def tw5597585758464555005:=Nat
def tw16510525279418480537:=Nat
def tw2762612523798602244:=Nat
def tw12988557384385262705:=Nat
def tw1445971229515017058:=Nat
def tw8768278869279362423:=Nat
def tw16887899427615939667:=Nat
def tw5240400892109467530:=Nat
def tw3892492265763619373:=Nat
def tw8148564076865464650:=Nat
def tw14200749459781419252:=Nat
def tw18134374922211967783:=Nat
def tw1669289247743930783:=Nat
def tw11143032627140399156:=Nat
def tw7573510490555152589:=Nat
def tw12010822742252954984:=Nat
def tw7990664774407624838:=Nat
def tw14137075587902209194:=Nat
def tw3033513848828104117:=Nat
def tw11970696324737757745:=Nat
def tw7738685157684507443:=Nat
def tw8893544179109476551:=Nat
def tw8592823065969691289:=Nat
def tw9708567416447291710:=Nat
def tw149938096488491862:=Nat
def tw12201980374602737028:=Nat
def tw17411454067847785746:=Nat
def tw12030195091974441339:=Nat
def tw8885517045437471956:=Nat
def tw6229454318348822610:=Nat
def tw9740915703342668966:=Nat
def tw10866623426664306981:=Nat
def tw9091169838560459960:=Nat
def tw13824805345445550997:=Nat
def tw1673282778020320493:=Nat
def tw12556925323591304364:=Nat
def tw519982361930606936:=Nat
def tw1448557313514765350:=Nat
def tw10259297443903404206:=Nat
def tw4821709729563849820:=Nat
def tw12859547640575847290:=Nat
def tw811741175607772068:=Nat
def tw15395536054904999476:=Nat
def tw2246557840763939812:=Nat
def tw13848404580737373261:=Nat
def tw10730048047926103788:=Nat
def tw5477875014806745454:=Nat
def tw13410665884536759914:=Nat
def tw7686022085992511607:=Nat
def tw1186570246580110091:=Nat
def tw8604597810140105798:=Nat
def tw13420205009535096344:=Nat
def tw11031991234101216620:=Nat
def tw12568133706188353357:=Nat
def tw2010171807913292904:=Nat
def tw4244333919332152110:=Nat
def tw7068747000416532822:=Nat
def tw9305324031438982282:=Nat
def tw2935195527268563651:=Nat
def tw2135200712199930535:=Nat
def tw2853074463493286693:=Nat
def tw14910154544327771587:=Nat
def tw13784391407870569540:=Nat
def tw9783339345881962758:=Nat
def tw13792971068462706084:=Nat
def tw12901957576356831686:=Nat
def tw3760304669130417679:=Nat
def tw4788730319049653601:=Nat
def tw13326821033519544388:=Nat
def tw2534849417233097183:=Nat
def tw4314127420879711515:=Nat
def tw18379359818244500158:=Nat
def tw15950772681488050698:=Nat
def tw9530507829651922943:=Nat
def tw12156212153230058951:=Nat
def tw5551596112519934583:=Nat
def tw12871217272643629674:=Nat
def tw12401461067572055417:=Nat
def tw3035809997400529536:=Nat
def tw10347186691935984811:=Nat
def tw11535557082942340497:=Nat
def tw16895693092948890696:=Nat
def tw15065111921437732056:=Nat
def tw3282541363726847120:=Nat
def tw15503770037299279559:=Nat
def tw3137329577684793653:=Nat
def tw17291709274185853776:=Nat
def tw4272128695929284246:=Nat
def tw9966958196230576751:=Nat
def tw10024993524344495868:=Nat
def tw4589638791391344352:=Nat
def tw17989118200008898900:=Nat
def tw2163363695879095503:=Nat
def tw11626217206547186741:=Nat
def tw2521146930498840042:=Nat
def tw5549622194097475578:=Nat
end PySem.W.Fast
open PySem PySem.W PyProof.Rows
set_option maxRecDepth 100000 in
set_option maxHeartbeats 0 in
theorem PySem.Challenge.cw_allhits_k50_refused_at_a_desk_holds : PySem.Challenge.rw_allhits_k50_refused_at_a_desk.Holds := by
 w_on;o_law;k_head;(case hw=>w_witness2)
 k_fill
 refine Zk50.walk (l:=PySem.Challenge.rw_allhits_k50_refused_at_a_desk) rfl rfl (fun w h Y=>W.kIn_of Y) ?F
 case F =>
   intro w mg fa h KX G hmg
   refine' Zk50.all_mk KX G hmg ?a_43 ?l_43 ?c_43 ?k_43 ?a_33 ?l_33 ?c_33 ?k_33 ?a_44 ?l_44 ?c_44 ?k_44 ?a_34 ?l_34 ?c_34 ?k_34 ?a_18 ?l_18 ?c_18 ?k_18 ?a_24 ?l_24 ?c_24 ?k_24 ?a_06 ?l_06 ?c_06 ?k_06 ?a_35 ?l_35 ?c_35 ?k_35 ?a_57 ?l_57 ?c_57 ?k_57 ?a_36 ?l_36 ?c_36 ?k_36 ?a_45 ?l_45 ?c_45 ?k_45 ?a_58 ?l_58 ?c_58 ?k_58 ?a_59 ?l_59 ?c_59 ?k_59 ?a_54 ?l_54 ?c_54 ?k_54 ?a_25 ?l_25 ?c_25 ?k_25 ?a_37 ?l_37 ?c_37 ?k_37 ?a_46 ?l_46 ?c_46 ?k_46 ?a_19 ?l_19 ?c_19 ?k_19 ?a_47 ?l_47 ?c_47 ?k_47 ?a_20 ?l_20 ?c_20 ?k_20 ?a_64 ?l_64 ?c_64 ?k_64 ?a_65 ?l_65 ?c_65 ?k_65 ?a_70 ?l_70 ?c_70 ?k_70 ?a_71 ?l_71 ?c_71 ?k_71 ?a_66 ?l_66 ?c_66 ?k_66 ?a_67 ?l_67 ?c_67 ?k_67 ?a_13 ?l_13 ?c_13 ?k_13 ?a_72 ?l_72 ?c_72 ?k_72 ?a_38 ?l_38 ?c_38 ?k_38 ?a_26 ?l_26 ?c_26 ?k_26 ?a_60 ?l_60 ?c_60 ?k_60 ?a_73 ?l_73 ?c_73 ?k_73 ?a_00 ?l_00 ?c_00 ?k_00 ?a_61 ?l_61 ?c_61 ?k_61 ?a_04 ?l_04 ?c_04 ?k_04 ?a_74 ?l_74 ?c_74 ?k_74 ?a_48 ?l_48 ?c_48 ?k_48 ?a_55 ?l_55 ?c_55 ?k_55 ?a_07 ?l_07 ?c_07 ?k_07 ?a_21 ?l_21 ?c_21 ?k_21 ?a_49 ?l_49 ?c_49 ?k_49 ?a_39 ?l_39 ?c_39 ?k_39 ?a_68 ?l_68 ?c_68 ?k_68 ?a_14 ?l_14 ?c_14 ?k_14 ?a_01 ?l_01 ?c_01 ?k_01 ?a_22 ?l_22 ?c_22 ?k_22 ?a_62 ?l_62 ?c_62 ?k_62 ?a_69 ?l_69 ?c_69 ?k_69 ?a_27 ?l_27 ?c_27 ?k_27 ?a_28 ?l_28 ?c_28 ?k_28 ?a_40 ?l_40 ?c_40 ?k_40 ?a_63 ?l_63 ?c_63 ?k_63 ?a_23 ?l_23 ?c_23 ?k_23 ?a_08 ?l_08 ?c_08 ?k_08 ?a_41 ?l_41 ?c_41 ?k_41 ?a_56 ?l_56 ?c_56 ?k_56 ?a_15 ?l_15 ?c_15 ?k_15 ?a_29 ?l_29 ?c_29 ?k_29 ?a_03 ?l_03 ?c_03 ?k_03 ?a_50 ?l_50 ?c_50 ?k_50 ?a_51 ?l_51 ?c_51 ?k_51 ?a_09 ?i_09 ?l_09 ?c_09 ?k_09 ?a_05 ?i_05 ?l_05 ?c_05 ?k_05 ?a_02 ?i_02 ?l_02 ?c_02 ?k_02 ?a_10 ?i_10 ?l_10 ?c_10 ?k_10 ?a_75 ?l_75 ?c_75 ?k_75 ?a_52 ?l_52 ?c_52 ?k_52 ?a_53 ?i_53 ?l_53 ?c_53 ?k_53 ?a_42 ?l_42 ?c_42 ?k_42 ?a_16 ?l_16 ?c_16 ?k_16 ?a_30 ?l_30 ?c_30 ?k_30 ?a_11 ?l_11 ?c_11 ?k_11 ?a_31 ?l_31 ?c_31 ?k_31 ?a_32 ?l_32 ?c_32 ?k_32 ?a_17 ?l_17 ?c_17 ?k_17 ?a_12 ?l_12 ?c_12 ?k_12 ?a_law ?l_law ?c_law ?k_law ?z_isinstance ?z_int ?z_bool ?z_len ?z_range ?z_sorted ?z_set ?z_list ?z_str ?z_all ?z_zip ?z_ValueError ?v_MOST_SETS ?v_MOST_LETTERS ?v_MOST_NAMES ?v_NO_SETS ?v_NO_NAMES ?v_MOST_VOTERS ?v_MOST_KEPT ?gD ?gW ?lW ?nW ?eW1 ?lW1 ?eW2 ?lW2 ?eW3 ?lW3 ?eW4 ?lW4 ?eW5 ?lW5 ?eW6 ?lW6 ?eW7 ?lW7 ?eW8 ?lW8 ?eW9 ?lW9 ?eW10 ?lW10 ?eW11 ?lW11 ?eW12 ?lW12 ?eW13 ?lW13 ?eW14 ?lW14 ?eW15 ?lW15 ?pgD ?hdD ?poD ?saD ?nwD ?nkD ?mkD ?kpD ?gX ?gN ?gF ?gH ?gO ?gM ?xX ?xN ?xF ?xH ?xO ?xM ?eH ?hX ?pX ?qX ?rX ?bX ?oX ?vX ?sXN ?dXN ?sXO ?dXO ?sXM ?dXM ?sXF ?dXF ?hN ?pN ?qN ?rN ?bN ?oN ?vN ?sNX ?dNX ?sNO ?dNO ?sNM ?dNM ?sNF ?dNF ?hO ?pO ?qO ?rO ?bO ?oO ?vO ?sOX ?dOX ?sON ?dON ?sOM ?dOM ?sOF ?dOF ?hM ?pM ?qM ?rM ?bM ?oM ?vM ?sMX ?dMX ?sMN ?dMN ?sMO ?dMO ?sMF ?dMF ?tX ?kX ?tN ?kN ?tF ?kF ?tO ?kO ?tM ?kM ?uS ?uE ?u2
   case gD=>k_is
   case gW=>k_is
   case lW=>k_is
   case gX=>k_is
   case gN=>k_is
   case gF=>k_is
   case gH=>k_is
   case gO=>k_is
   case gM=>k_is
   case a_43=>k_is
   case l_43=>k_is
   case c_43=>k_is
   case k_43=>k_is
   case a_33=>k_is
   case l_33=>k_is
   case c_33=>k_is
   case k_33=>k_is
   case a_44=>k_is
   case l_44=>k_is
   case c_44=>k_is
   case k_44=>k_is
   case a_34=>k_is
   case l_34=>k_is
   case c_34=>k_is
   case k_34=>k_is
   case a_18=>k_is
   case l_18=>k_is
   case c_18=>k_is
   case k_18=>k_is
   case a_24=>k_is
   case l_24=>k_is
   case c_24=>k_is
   case k_24=>k_is
   case a_06=>k_is
   case l_06=>k_is
   case c_06=>k_is
   case k_06=>k_is
   case a_35=>k_is
   case l_35=>k_is
   case c_35=>k_is
   case k_35=>k_is
   case a_57=>k_is
   case l_57=>k_is
   case c_57=>k_is
   case k_57=>k_is
   case a_36=>k_is
   case l_36=>k_is
   case c_36=>k_is
   case k_36=>k_is
   case a_45=>k_is
   case l_45=>k_is
   case c_45=>k_is
   case k_45=>k_is
   case a_58=>k_is
   case l_58=>k_is
   case c_58=>k_is
   case k_58=>k_is
   case a_59=>k_is
   case l_59=>k_is
   case c_59=>k_is
   case k_59=>k_is
   case a_54=>k_is
   case l_54=>k_is
   case c_54=>k_is
   case k_54=>k_is
   case a_25=>k_is
   case l_25=>k_is
   case c_25=>k_is
   case k_25=>k_is
   case a_37=>k_is
   case l_37=>k_is
   case c_37=>k_is
   case k_37=>k_is
   case a_46=>k_is
   case l_46=>k_is
   case c_46=>k_is
   case k_46=>k_is
   case a_19=>k_is
   case l_19=>k_is
   case c_19=>k_is
   case k_19=>k_is
   case a_47=>k_is
   case l_47=>k_is
   case c_47=>k_is
   case k_47=>k_is
   case a_20=>k_is
   case l_20=>k_is
   case c_20=>k_is
   case k_20=>k_is
   case a_64=>k_is
   case l_64=>k_is
   case c_64=>k_is
   case k_64=>k_is
   case a_65=>k_is
   case l_65=>k_is
   case c_65=>k_is
   case k_65=>k_is
   case a_70=>k_is
   case l_70=>k_is
   case c_70=>k_is
   case k_70=>k_is
   case a_71=>k_is
   case l_71=>k_is
   case c_71=>k_is
   case k_71=>k_is
   case a_66=>k_is
   case l_66=>k_is
   case c_66=>k_is
   case k_66=>k_is
   case a_67=>k_is
   case l_67=>k_is
   case c_67=>k_is
   case k_67=>k_is
   case a_13=>k_is
   case l_13=>k_is
   case c_13=>k_is
   case k_13=>k_is
   case a_72=>k_is
   case l_72=>k_is
   case c_72=>k_is
   case k_72=>k_is
   case a_38=>k_is
   case l_38=>k_is
   case c_38=>k_is
   case k_38=>k_is
   case a_26=>k_is
   case l_26=>k_is
   case c_26=>k_is
   case k_26=>k_is
   case a_60=>k_is
   case l_60=>k_is
   case c_60=>k_is
   case k_60=>k_is
   case a_73=>k_is
   case l_73=>k_is
   case c_73=>k_is
   case k_73=>k_is
   case a_00=>k_is
   case l_00=>k_is
   case c_00=>k_is
   case k_00=>k_is
   case a_61=>k_is
   case l_61=>k_is
   case c_61=>k_is
   case k_61=>k_is
   case a_04=>k_is
   case l_04=>k_is
   case c_04=>k_is
   case k_04=>k_is
   case a_74=>k_is
   case l_74=>k_is
   case c_74=>k_is
   case k_74=>k_is
   case a_48=>k_is
   case l_48=>k_is
   case c_48=>k_is
   case k_48=>k_is
   case a_55=>k_is
   case l_55=>k_is
   case c_55=>k_is
   case k_55=>k_is
   case a_07=>k_is
   case l_07=>k_is
   case c_07=>k_is
   case k_07=>k_is
   case a_21=>k_is
   case l_21=>k_is
   case c_21=>k_is
   case k_21=>k_is
   case a_49=>k_is
   case l_49=>k_is
   case c_49=>k_is
   case k_49=>k_is
   case a_39=>k_is
   case l_39=>k_is
   case c_39=>k_is
   case k_39=>k_is
   case a_68=>k_is
   case l_68=>k_is
   case c_68=>k_is
   case k_68=>k_is
   case a_14=>k_is
   case l_14=>k_is
   case c_14=>k_is
   case k_14=>k_is
   case a_01=>k_is
   case l_01=>k_is
   case c_01=>k_is
   case k_01=>k_is
   case a_22=>k_is
   case l_22=>k_is
   case c_22=>k_is
   case k_22=>k_is
   case a_62=>k_is
   case l_62=>k_is
   case c_62=>k_is
   case k_62=>k_is
   case a_69=>k_is
   case l_69=>k_is
   case c_69=>k_is
   case k_69=>k_is
   case a_27=>k_is
   case l_27=>k_is
   case c_27=>k_is
   case k_27=>k_is
   case a_28=>k_is
   case l_28=>k_is
   case c_28=>k_is
   case k_28=>k_is
   case a_40=>k_is
   case l_40=>k_is
   case c_40=>k_is
   case k_40=>k_is
   case a_63=>k_is
   case l_63=>k_is
   case c_63=>k_is
   case k_63=>k_is
   case a_23=>k_is
   case l_23=>k_is
   case c_23=>k_is
   case k_23=>k_is
   case a_08=>k_is
   case l_08=>k_is
   case c_08=>k_is
   case k_08=>k_is
   case a_41=>k_is
   case l_41=>k_is
   case c_41=>k_is
   case k_41=>k_is
   case a_56=>k_is
   case l_56=>k_is
   case c_56=>k_is
   case k_56=>k_is
   case a_15=>k_is
   case l_15=>k_is
   case c_15=>k_is
   case k_15=>k_is
   case a_29=>k_is
   case l_29=>k_is
   case c_29=>k_is
   case k_29=>k_is
   case a_03=>k_is
   case l_03=>k_is
   case c_03=>k_is
   case k_03=>k_is
   case a_50=>k_is
   case l_50=>k_is
   case c_50=>k_is
   case k_50=>k_is
   case a_51=>k_is
   case l_51=>k_is
   case c_51=>k_is
   case k_51=>k_is
   case a_09=>k_is
   case i_09=>k_is
   case l_09=>k_is
   case c_09=>k_is
   case k_09=>k_is
   case a_05=>k_is
   case i_05=>k_is
   case l_05=>k_is
   case c_05=>k_is
   case k_05=>k_is
   case a_02=>k_is
   case i_02=>k_is
   case l_02=>k_is
   case c_02=>k_is
   case k_02=>k_is
   case a_10=>k_is
   case i_10=>k_is
   case l_10=>k_is
   case c_10=>k_is
   case k_10=>k_is
   case a_75=>k_is
   case l_75=>k_is
   case c_75=>k_is
   case k_75=>k_is
   case a_52=>k_is
   case l_52=>k_is
   case c_52=>k_is
   case k_52=>k_is
   case a_53=>k_is
   case i_53=>k_is
   case l_53=>k_is
   case c_53=>k_is
   case k_53=>k_is
   case a_42=>k_is
   case l_42=>k_is
   case c_42=>k_is
   case k_42=>k_is
   case a_16=>k_is
   case l_16=>k_is
   case c_16=>k_is
   case k_16=>k_is
   case a_30=>k_is
   case l_30=>k_is
   case c_30=>k_is
   case k_30=>k_is
   case a_11=>k_is
   case l_11=>k_is
   case c_11=>k_is
   case k_11=>k_is
   case a_31=>k_is
   case l_31=>k_is
   case c_31=>k_is
   case k_31=>k_is
   case a_32=>k_is
   case l_32=>k_is
   case c_32=>k_is
   case k_32=>k_is
   case a_17=>k_is
   case l_17=>k_is
   case c_17=>k_is
   case k_17=>k_is
   case a_12=>k_is
   case l_12=>k_is
   case c_12=>k_is
   case k_12=>k_is
   case a_law=>k_is
   case l_law=>k_is
   case c_law=>k_is
   case k_law=>k_is
   case z_isinstance=>k_is
   case z_int=>k_is
   case z_bool=>k_is
   case z_len=>k_is
   case z_range=>k_is
   case z_sorted=>k_is
   case z_set=>k_is
   case z_list=>k_is
   case z_str=>k_is
   case z_all=>k_is
   case z_zip=>k_is
   case z_ValueError=>k_is
   case v_MOST_SETS=>k_is
   case v_MOST_LETTERS=>k_is
   case v_MOST_NAMES=>k_is
   case v_NO_SETS=>k_is
   case v_NO_NAMES=>k_is
   case v_MOST_VOTERS=>k_is
   case v_MOST_KEPT=>k_is
   case nW=>rfl
   case eW1=>rfl
   case lW1=>k_is
   case eW2=>rfl
   case lW2=>k_is
   case eW3=>rfl
   case lW3=>k_is
   case eW4=>rfl
   case lW4=>k_is
   case eW5=>rfl
   case lW5=>k_is
   case eW6=>rfl
   case lW6=>k_is
   case eW7=>rfl
   case lW7=>k_is
   case eW8=>rfl
   case lW8=>k_is
   case eW9=>rfl
   case lW9=>k_is
   case eW10=>rfl
   case lW10=>k_is
   case eW11=>rfl
   case lW11=>k_is
   case eW12=>rfl
   case lW12=>k_is
   case eW13=>rfl
   case lW13=>k_is
   case eW14=>rfl
   case lW14=>k_is
   case eW15=>rfl
   case lW15=>k_is
   case pgD=>k_is
   case hdD=>k_is
   case poD=>k_is
   case saD=>k_is
   case nwD=>k_is
   case nkD=>k_is
   case mkD=>k_is
   case kpD=>k_is
   case xX=>k_exc
   case xN=>k_exc
   case xF=>k_exc
   case xH=>k_exc
   case xO=>k_exc
   case xM=>k_exc
   case eH=>k_is
   case hX=>k_is
   case pX=>k_is
   case qX=>k_is
   case rX=>k_is
   case bX=>k_is
   case oX=>k_is
   case vX=>k_is
   case sXN=>k_is
   case dXN=>rfl
   case sXO=>k_is
   case dXO=>rfl
   case sXM=>k_is
   case dXM=>rfl
   case sXF=>k_is
   case dXF=>rfl
   case hN=>k_is
   case pN=>k_is
   case qN=>k_is
   case rN=>k_is
   case bN=>k_is
   case oN=>k_is
   case vN=>k_is
   case sNX=>k_is
   case dNX=>rfl
   case sNO=>k_is
   case dNO=>rfl
   case sNM=>k_is
   case dNM=>rfl
   case sNF=>k_is
   case dNF=>rfl
   case hO=>k_is
   case pO=>k_is
   case qO=>k_is
   case rO=>k_is
   case bO=>k_is
   case oO=>k_is
   case vO=>k_is
   case sOX=>k_is
   case dOX=>rfl
   case sON=>k_is
   case dON=>rfl
   case sOM=>k_is
   case dOM=>rfl
   case sOF=>k_is
   case dOF=>rfl
   case hM=>k_is
   case pM=>k_is
   case qM=>k_is
   case rM=>k_is
   case bM=>k_is
   case oM=>k_is
   case vM=>k_is
   case sMX=>k_is
   case dMX=>rfl
   case sMN=>k_is
   case dMN=>rfl
   case sMO=>k_is
   case dMO=>rfl
   case sMF=>k_is
   case dMF=>rfl
   case tX=>k_is
   case kX=>k_is
   case tN=>k_is
   case kN=>k_is
   case tF=>k_is
   case kF=>k_is
   case tO=>k_is
   case kO=>k_is
   case tM=>k_is
   case kM=>k_is
   case uS=>k_is
   case uE=>rfl
   case u2=>k_is
